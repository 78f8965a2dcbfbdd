/- Joined: FrameQ, Fs27, Fs29, Fs30, Fs31, Fs33, Fs32. -/
import Derived.Test.YtiogckgchlnldaaQ9
import Derived.Test.YtiogckgchlnldaaQ12
import Derived.Test.YtiogckgchlnldaaQ16
import Derived.Test.YtiogckgchlnldaaQ14
import Derived.Test.YtiogckgchlnldaaQ13
import Derived.Test.YtiogckgchlnldaaQ7
import Derived.Test.YtiogckgchlnldaaQ1
import Derived.BigQuiet
set_option linter.unusedSimpArgs false
set_option linter.unusedVariables false
/- Arguments of layer 8's statements: a loss by value, lists of bytes, calls. -/
set_option linter.unusedSimpArgs false
set_option linter.unusedVariables false
namespace Go.Proofs.Ytiogckgchlnldaa
open Go.Joins Go.ChangeShapes Go.WideShapes Go.RowKit Go.Deep
set_option maxRecDepth 100000

section
variable {H : Type} {ench : TypeId × Value → H} {W : World} {P : Program}
/-- a slice of elements of sz cells each, as one cell reads -/
theorem open_rowsC {α : Type} {enc : α → List Value} {sz : Nat} {ok : α → Prop} {t e : TypeId} {v : Value} {fuel : Nat} {x : DataW H × List MemPlace} (ht : P.underlying t = some (.slice e)) (hsz : P.cellsOf e = sz) (hpos : 0 < sz) (henc : ∀ x, (enc x).length = sz)
    (hd : ∀ (fuel : Nat) (cs : List Value) (x : DataW H × List MemPlace), cs.length = sz → DataW.trod ench P W 0 (fun _ => true) true fuel e cs = some x → ∃ y, cs = enc y ∧ ok y)
    (h : DataW.trod ench P W 0 (fun _ => true) true fuel t [v] = some x) :
    ∃ (V : Option Addr) (c : Nat) (l : List α), v = .slice V l.length c ∧ Rw W enc sz V l ∧ l.length ≤ c ∧ l.length ≤ maxLen ∧ ∀ x ∈ l, ok x := by
  rcases open_slice ht h with ⟨hcs, _⟩ | ⟨a, len0, cap0, m, n, D, Pl, hcs, _, hl, hm, hmm, _, hi⟩
  · simp at hcs
    subst hcs
    exact ⟨none, 0, [], rfl, Rw.nil _ _ _ _, Nat.le_refl _, Nat.zero_le _, fun e h => by simp at h⟩
  · simp at hcs
    subst hcs
    have hlm : len0 ≤ m := by rw [hmm]; split <;> omega
    obtain ⟨E, hE, hp⟩ := list_ofR (fun i (y : α) => (∃ p o, some a = some ⟨p, o, none⟩ ∧ ∀ j v, (enc y)[j]? = some v → W.cell? ⟨p, o + i * sz + j, none⟩ = some v) ∧ ok y) len0 (fun i hil => by
      obtain ⟨cs', h1, h2⟩ := hi i (by omega)
      obtain ⟨cs0, h01, _⟩ := hi 0 (by omega)
      rw [hsz] at h1 h01
      obtain ⟨_, hlen, hcell⟩ := World.cells?_some h1
      obtain ⟨_, hlen0, hcell0⟩ := World.cells?_some h01
      obtain ⟨y, rfl, hy⟩ := hd _ cs' _ hlen h2
      have hc0 := hcell0 0 hpos
      rw [add_add, Nat.zero_mul] at hc0
      obtain ⟨p, o, rfl⟩ := spotR (show W.cell? a = some _ by rw [List.getElem?_eq_getElem (by omega)] at hc0; simpa [Addr.add] using hc0)
      refine ⟨y, ⟨p, o, rfl, fun j v hj => ?_⟩, hy⟩
      have hjl : j < sz := by
        rcases Nat.lt_or_ge j sz with h3 | h3
        · exact h3
        · rw [List.getElem?_eq_none (by rw [henc]; exact h3)] at hj; cases hj
      have := hcell j hjl
      rw [add_add, addR, hj, ← Nat.add_assoc] at this
      exact this)
    refine ⟨some a, cap0, E, by rw [hE], fun i y hy => ?_, by omega, by omega, fun y hy => ?_⟩
    · exact (hp i y hy).1
    · obtain ⟨j, hj, rfl⟩ := List.getElem_of_mem hy
      exact (hp j _ (List.getElem?_eq_getElem hj)).2
end

/-- where a list of bytes lies -/
structure Bx where
  A : Option Addr
  c : Nat
  b : List UInt8
def encBx (x : Bx) : List Value := [.slice x.A x.b.length x.c]
/-- a call: kind, names, bytes, number, what a crash keeps -/
structure Op8 where
  kd : Nat
  nm : Nm
  ot : Nm
  A : Option Addr
  c : Nat
  b : List UInt8
  n : Int
  KA : Option Addr
  kc : Nat
  kp : List Bool
  to_ : Int
def encOp8 (o : Op8) : List Value := [.int .u8 (o.kd : Nat), .string ⟨o.nm.toArray⟩, .string ⟨o.ot.toArray⟩, .slice o.A o.b.length o.c, .int .i64 o.n, .slice o.KA o.kp.length o.kc, .int .i64 o.to_]
def i64P (n : Int) : Prop := -9223372036854775808 ≤ n ∧ n ≤ 9223372036854775807
def Op8.ok (w : World) (o : Op8) : Prop := o.kd < 256 ∧ o.nm.length ≤ maxLen ∧ o.ot.length ≤ maxLen ∧ Bs w o.A o.b ∧ o.b.length ≤ maxLen ∧ i64P o.n ∧ Bo w o.KA o.kp ∧ o.kp.length ≤ maxLen ∧ i64P o.to_
section
variable {H : Type} {ench : TypeId × Value → H} {W : World}
theorem Try.qCellsU8 : Try.prog.cellsOf 5 = 1 := by kernel_rfl
theorem Try.qCellsB : Try.prog.cellsOf 4 = 1 := by kernel_rfl
theorem Try.qCellsI : Try.prog.cellsOf 3 = 1 := by kernel_rfl
theorem Try.qCellsS : Try.prog.cellsOf 9 = 1 := by kernel_rfl
theorem Try.qCellsL : Try.prog.cellsOf 32 = 1 := by kernel_rfl
theorem Try.qCellsK : Try.prog.cellsOf 23 = 1 := by kernel_rfl
theorem Try.qCellsLoss : Try.prog.cellsOf 25 = 2 := by kernel_rfl
theorem Try.qCellsO : Try.prog.cellsOf 47 = 7 := by kernel_rfl
theorem qtrod_u8 {base n : Nat} {spare : Nat → Bool} {held : Bool} {c : Value} {y : DataW H × List MemPlace} (h : DataW.trod ench Try.prog W base spare held n 5 [c] = some y) : ∃ x : Nat, c = .int .u8 x ∧ x < 256 := by
  obtain ⟨x, e, _, wx⟩ := DataW.trod_int Try.underlying5 h
  have hb := bounds_u8 wx
  simp at e
  exact ⟨x.toNat, by rw [e, Int.toNat_of_nonneg hb.1], by omega⟩
theorem qtrod_int {base n : Nat} {spare : Nat → Bool} {held : Bool} {c : Value} {y : DataW H × List MemPlace} (h : DataW.trod ench Try.prog W base spare held n 3 [c] = some y) : ∃ x : Int, c = .int .i64 x ∧ i64P x := by
  obtain ⟨x, e, _, wx⟩ := DataW.trod_int Try.underlying3 h
  simp at e
  exact ⟨x, e, bounds_i64 wx⟩
theorem qtrod_str {base n : Nat} {spare : Nat → Bool} {held : Bool} {c : Value} {y : DataW H × List MemPlace} (h : DataW.trod ench Try.prog W base spare held n 9 [c] = some y) : ∃ x : Nm, c = .string ⟨x.toArray⟩ ∧ x.length ≤ maxLen := by
  obtain ⟨x, e, _, hx⟩ := DataW.trod_string Try.underlying9 h
  simp at e
  exact ⟨x.data.toList, by rw [e], hx⟩
theorem qtrod_bools {n : Nat} {c : Value} {y : DataW H × List MemPlace} (h : DataW.trod ench Try.prog W 0 (fun _ => true) true n 23 [c] = some y) : ∃ (A : Option Addr) (k : Nat) (l : List Bool), c = .slice A l.length k ∧ Bo W A l ∧ l.length ≤ maxLen := by
  obtain ⟨V, k, l, h1, h2, _, h3, _⟩ := open_rowsC (enc := fun b => [Value.bool b]) (sz := 1) (ok := fun _ => True) Try.underlying23 Try.qCellsB (by decide) (fun _ => rfl) (fun fuel cs x hl ht => by
    match cs, hl with
    | [c0], _ =>
      obtain ⟨b, e, _⟩ := DataW.trod_bool Try.underlying4 ht
      exact ⟨b, by simpa using e, trivial⟩) h
  refine ⟨V, k, l, h1, fun i x hi => ?_, h3⟩
  obtain ⟨p, o, hA, hc⟩ := h2 i x hi
  exact ⟨p, o, hA, by simpa using hc 0 _ rfl⟩
theorem qtrod_loss {n : Nat} {c d : Value} {y : DataW H × List MemPlace} (h : DataW.trod ench Try.prog W 0 (fun _ => true) true n 25 [c, d] = some y) :
    ∃ (A : Option Addr) (k : Nat) (l : List Bool) (m : Int), c = .slice A l.length k ∧ d = .int .i64 m ∧ Bo W A l ∧ l.length ≤ maxLen ∧ i64P m := by
  obtain ⟨xs, m, _, _, _, hlen, hg⟩ := DataW.trod_struct Try.underlying25 h
  obtain ⟨y0, h0⟩ := trodR hlen hg 0 rfl Try.qCellsK
  obtain ⟨y1, h1⟩ := trodR hlen hg 1 rfl Try.qCellsI
  obtain ⟨A, k, l, rfl, hb, hl⟩ := qtrod_bools h0
  obtain ⟨m, rfl, hm⟩ := qtrod_int h1
  exact ⟨A, k, l, m, rfl, rfl, hb, hl, hm⟩
/-- api.Loss by value -/
theorem open_lossArg {b0 : Nat} {v : Value} {d : DataW H} {p : List MemPlace} (hv : Value.okWide Try.prog W .any b0 25 v) (h : DataW.Trod ench Try.prog W 0 (fun _ => true) true 25 v d p) :
    ∃ (A : Option Addr) (c : Nat) (l : List Bool) (m : Int), v = .agg #[.slice A l.length c, .int .i64 m] ∧ Bo W A l ∧ l.length ≤ maxLen ∧ i64P m := by
  obtain ⟨cs, rfl, hsz⟩ := okWide_struct Try.underlying25 hv
  obtain ⟨l⟩ := cs
  match l, hsz.trans Try.qCellsLoss with
  | [c0, c1], _ =>
    obtain ⟨fuel, hf⟩ := h
    obtain ⟨A, k, l, m, rfl, rfl, hb, hl, hm⟩ := qtrod_loss (show DataW.trod ench Try.prog W 0 (fun _ => true) true fuel 25 [c0, c1] = _ from hf)
    exact ⟨A, k, l, m, rfl, hb, hl, hm⟩
/-- a slice of bytes' slices -/
theorem open_bytesM {b0 : Nat} {v : Value} {d : DataW H} {p : List MemPlace} (hv : Value.okWide Try.prog W .any b0 22 v) (h : DataW.Trod ench Try.prog W 0 (fun _ => true) true 22 v d p) :
    ∃ (V : Option Addr) (c : Nat) (l : List Bx), v = .slice V l.length c ∧ Rw W encBx 1 V l ∧ l.length ≤ c ∧ l.length ≤ maxLen ∧ ∀ x ∈ l, Bs W x.A x.b ∧ x.b.length ≤ maxLen :=
  open_rows (enc := encBx) (sz := 1) (ok := fun x => Bs W x.A x.b ∧ x.b.length ≤ maxLen) Try.underlying22 Try.qCellsL (by decide) (fun _ => rfl) (fun fuel cs x hl ht => by
    match cs, hl with
    | [c0], _ =>
      obtain ⟨A, c, b, rfl, k2, k3⟩ := open_bytes (b0 := 0) ht
      exact ⟨⟨A, c, b⟩, rfl, k3, k2⟩) hv h
/-- a slice of calls -/
theorem open_ops8 {b0 : Nat} {v : Value} {d : DataW H} {p : List MemPlace} (hv : Value.okWide Try.prog W .any b0 41 v) (h : DataW.Trod ench Try.prog W 0 (fun _ => true) true 41 v d p) :
    ∃ (V : Option Addr) (c : Nat) (l : List Op8), v = .slice V l.length c ∧ Rw W encOp8 7 V l ∧ l.length ≤ c ∧ l.length ≤ maxLen ∧ ∀ o ∈ l, o.ok W :=
  open_rows (enc := encOp8) (sz := 7) (ok := Op8.ok W) Try.underlying41 Try.qCellsO (by decide) (fun _ => rfl) (fun fuel cs x hl ht => by
    match cs, hl with
    | [c0, c1, c2, c3, c4, c5, c6], _ =>
      obtain ⟨xs, m, _, _, _, hlen, hg⟩ := DataW.trod_struct Try.underlying47 ht
      obtain ⟨y0, h0⟩ := trodR hlen hg 0 rfl Try.qCellsU8
      obtain ⟨y1, h1⟩ := trodR hlen hg 1 rfl Try.qCellsS
      obtain ⟨y2, h2⟩ := trodR hlen hg 2 rfl Try.qCellsS
      obtain ⟨y3, h3⟩ := trodR hlen hg 3 rfl Try.qCellsL
      obtain ⟨y4, h4⟩ := trodR hlen hg 4 rfl Try.qCellsI
      obtain ⟨y5, h5⟩ := trodR hlen hg 5 rfl Try.qCellsLoss
      obtain ⟨kd, rfl, k0⟩ := qtrod_u8 h0
      obtain ⟨nm, rfl, k1⟩ := qtrod_str h1
      obtain ⟨ot, rfl, k2⟩ := qtrod_str h2
      obtain ⟨A, c, b, rfl, k3, k4⟩ := open_bytes (b0 := 0) h3
      obtain ⟨n, rfl, k5⟩ := qtrod_int h4
      obtain ⟨KA, kc, kp, to_, rfl, rfl, k6, k7, k8⟩ := qtrod_loss h5
      exact ⟨⟨kd, nm, ot, A, c, b, n, KA, kc, kp, to_⟩, rfl, k0, k1, k2, k4, k3, k5, k6, k7, k8⟩) hv h
end

end Go.Proofs.Ytiogckgchlnldaa

/- Layer 8: a call of the statements, as data: what is refused changes nothing; never more bytes than room. -/
set_option linter.unusedSimpArgs false
set_option linter.unusedVariables false
namespace Go.Proofs.Ytiogckgchlnldaa
set_option maxRecDepth 100000

/-- what a call does and answers -/
def playD (room : Int) (d : Fd) (o : Op8) : Nat × Fd :=
  if o.kd % 14 = 0 then createD d o.nm
  else if o.kd % 14 = 6 ∨ o.kd % 14 = 7 then syncD d o.nm
  else if o.kd % 14 = 8 then cutD d o.nm o.n
  else if o.kd % 14 = 9 then renameD d o.nm o.ot
  else if o.kd % 14 = 10 then removeD d o.nm
  else appendD room d o.nm o.b
theorem playD_cases {P : Nat × Fd → Prop} (room : Int) (d : Fd) (o : Op8) (h0 : P (createD d o.nm)) (h1 : P (syncD d o.nm)) (h2 : P (cutD d o.nm o.n)) (h3 : P (renameD d o.nm o.ot)) (h4 : P (removeD d o.nm)) (h5 : P (appendD room d o.nm o.b)) : P (playD room d o) := by
  unfold playD
  split
  · exact h0
  · split
    · exact h1
    · split
      · exact h2
      · split
        · exact h3
        · split
          · exact h4
          · exact h5
theorem create_err {d : Fd} {n : Nm} (h : (createD d n).1 ≠ 0) : (createD d n).2 = d := by
  unfold createD at h ⊢
  split
  · rfl
  · rename_i h1
    rw [if_neg h1] at h
    split
    · rfl
    · rename_i h2
      rw [if_neg h2] at h
      split
      · rfl
      · rename_i h3
        rw [if_neg h3] at h
        exact absurd rfl h
theorem sync_err {d : Fd} {n : Nm} (h : (syncD d n).1 ≠ 0) : (syncD d n).2 = d := by
  unfold syncD at h ⊢
  split
  · rfl
  · rename_i b h1
    rw [h1] at h
    exact absurd rfl h
theorem cut_err {d : Fd} {n : Nm} {k : Int} (h : (cutD d n k).1 ≠ 0) : (cutD d n k).2 = d := by
  unfold cutD at h ⊢
  split
  · rfl
  · rename_i b h1
    rw [h1] at h
    dsimp only at h ⊢
    split
    · rfl
    · rename_i h2
      rw [if_neg h2] at h
      exact absurd rfl h
theorem rename_err {d : Fd} {n m : Nm} (h : (renameD d n m).1 ≠ 0) : (renameD d n m).2 = d := by
  unfold renameD at h ⊢
  split
  · rfl
  · rename_i b h1
    rw [h1] at h
    dsimp only at h ⊢
    split
    · rfl
    · rename_i h2
      rw [if_neg h2] at h
      split
      · rfl
      · rename_i h3
        rw [if_neg h3] at h
        exact absurd rfl h
theorem remove_err {d : Fd} {n : Nm} (h : (removeD d n).1 ≠ 0) : (removeD d n).2 = d := by
  unfold removeD at h ⊢
  split
  · rfl
  · rename_i h1
    rw [if_neg h1] at h
    exact absurd rfl h
theorem append_err {room : Int} {d : Fd} {n : Nm} {b : List UInt8} (h : (appendD room d n b).1 ≠ 0) : (appendD room d n b).2 = d := by
  unfold appendD at h ⊢
  split
  · rfl
  · rename_i h1
    rw [if_neg h1] at h
    split
    · rfl
    · rename_i h2
      rw [if_neg h2] at h
      split
      · rfl
      · rename_i h3
        rw [if_neg h3] at h
        exact absurd rfl h
theorem play_err {room : Int} {d : Fd} {o : Op8} : (playD room d o).1 ≠ 0 → (playD room d o).2 = d :=
  playD_cases (P := fun x => x.1 ≠ 0 → x.2 = d) room d o create_err sync_err cut_err rename_err remove_err append_err
theorem lp1 {d d' : Fd} (h : Lp 0 d d') : Lp 1 d d' := ⟨h.1, Nat.le_succ_of_le h.2⟩
theorem lp_play (room : Int) (d : Fd) (o : Op8) : Lp 1 d (playD room d o).2 :=
  playD_cases (P := fun x => Lp 1 d x.2) room d o (lp1 (lp_create _ _)) (lp1 (lp_sync _ _)) (lp1 (lp_cut _ _ _)) (lp1 (lp_rename _ _ _)) (lp1 (lp_remove _ _)) (lp_append _ _ _ _)
theorem append_room {room : Int} {d : Fd} {n : Nm} {b : List UInt8} {T : List Ft} (h : Fi d T) (hu : usedD d + b.length ≤ 100000) (hl : d.P.length < 1000000) (hr : (usedD d : Int) ≤ room) : (usedD (appendD room d n b).2 : Int) ≤ room := by
  by_cases hc : room < (usedD d : Int) + b.length
  · unfold appendD
    split
    · exact hr
    · exact hr
  · have := used_append h room n b hu hl
    omega
theorem play_room {room : Int} {d : Fd} {o : Op8} {T : List Ft} (h : Fi d T) (hu : usedD d + o.b.length ≤ 100000) (hl : d.P.length < 1000000) (hr : (usedD d : Int) ≤ room) : (usedD (playD room d o).2 : Int) ≤ room := by
  have a : ∀ {x : Nat}, x ≤ usedD d → (x : Int) ≤ room := fun hx => by omega
  exact playD_cases (P := fun x => (usedD x.2 : Int) ≤ room) room d o (a (used_create h _)) (a (used_sync h _)) (a (used_cut h _ _)) (a (used_rename h _ _)) (a (used_remove h _)) (append_room h hu hl hr)
theorem play_used {room : Int} {d : Fd} {o : Op8} {T : List Ft} (h : Fi d T) (hu : usedD d + o.b.length ≤ 100000) (hl : d.P.length < 1000000) : usedD (playD room d o).2 ≤ usedD d + o.b.length := by
  have a : ∀ {x : Nat}, x ≤ usedD d → x ≤ usedD d + o.b.length := fun hx => by omega
  exact playD_cases (P := fun x => usedD x.2 ≤ usedD d + o.b.length) room d o (a (used_create h _)) (a (used_sync h _)) (a (used_cut h _ _)) (a (used_rename h _ _)) (a (used_remove h _)) (used_append h room o.nm o.b hu hl)

end Go.Proofs.Ytiogckgchlnldaa

/- Layer 8: a call of the statements (plays). -/
set_option linter.unusedSimpArgs false
set_option linter.unusedVariables false
namespace Go.Proofs.Ytiogckgchlnldaa
open Go.RowKit
set_option maxRecDepth 100000

theorem append_any {B q room : Nat} {w0 w : World} {ts : List Kt} {d : Fd} (n : Nm) (hn : n.length ≤ maxLen) (A : Option Addr) (c : Nat) (b : List UInt8) (h : FsI B w0 w q room ts d) (hb6 : b.length ≤ 1000000) (hr : room ≤ 1048576) (hA : ∀ W d', FsI B w0 W q room ts d' → Bs W A b) (hl : d.lf ≤ 1000000) (hu : usedD d + b.length ≤ 100000) (hpl : d.P.length < 1000000) :
    Calls Try.prog 16 #[.pointer (some ⟨q, 0, none⟩), .string ⟨n.toArray⟩, .slice A b.length c] w fun e w' => e = .returned (.int .u16 ((appendD room d n b).1 : Nat)) ∧ FsI B w0 w' q room ts (appendD room d n b).2 := by
  cases hat : atF d.F n with
  | none =>
    rw [show appendD room d n b = (80, d) by unfold appendD; rw [if_pos (by rw [hat]; rfl)]]
    refine (append_none n hn A c b h hat).mono ?_
    rintro e w1 ⟨rfl, rfl⟩
    exact ⟨rfl, h⟩
  | some x => exact append_rest n hn A c b h hat hb6 hr hA hl hu hpl

set_option maxHeartbeats 2000000 in
theorem plays_0 {B q room : Nat} {w0 w : World} {ts : List Kt} {d : Fd} (o : Op8) (h : FsI B w0 w q room ts d) (hn : o.nm.length ≤ maxLen) (hot : o.ot.length ≤ maxLen) (hb6 : o.b.length ≤ 1000000) (hr : room ≤ 1048576) (hA : ∀ W d', FsI B w0 W q room ts d' → Bs W o.A o.b) (hl : d.lf ≤ 1000000) (hu : usedD d + o.b.length ≤ 100000) (hpl : d.P.length < 1000000) (hk : o.kd % 14 = 0) :
    Calls Try.prog 31 #[.pointer (some ⟨q, 0, none⟩), .agg #[.int .u8 (o.kd : Nat), .string ⟨o.nm.toArray⟩, .string ⟨o.ot.toArray⟩, .slice o.A o.b.length o.c, .int .i64 o.n, .slice o.KA o.kp.length o.kc, .int .i64 o.to_]] w fun e w' => e = .returned (.int .u16 ((playD room d o).1 : Nat)) ∧ FsI B w0 w' q room ts (playD room d o).2 := by
  rw [show playD room d o = createD d o.nm by unfold playD; rw [if_pos hk]]
  obtain ⟨kd, nm, ot, A, c, b, n, KA, kc, kp, to_⟩ := o
  dsimp only at *
  obtain ⟨m, hm⟩ : ∃ m : Nat, m = kd % 14 := ⟨_, rfl⟩
  have f0 : (kd : Int) % 14 = (m : Int) := by rw [hm]; omega
  rw [← hm] at hk
  obtain ⟨bl, hbl⟩ : ∃ bl, bl = b.length := ⟨_, rfl⟩
  obtain ⟨kl, hkl⟩ : ∃ kl, kl = kp.length := ⟨_, rfl⟩
  rw [← hbl, ← hkl]
  obtain ⟨W, hW⟩ : ∃ W, W = w.alloc (.cells #[.int .u8 (kd : Nat), .string ⟨nm.toArray⟩, .string ⟨ot.toArray⟩, .slice A bl c, .int .i64 n, .slice KA kl kc, .int .i64 to_] 47) := ⟨_, rfl⟩
  have hB : Blk W w.heap.size 47 #[.int .u8 (kd : Nat), .string ⟨nm.toArray⟩, .string ⟨ot.toArray⟩, .slice A bl c, .int .i64 n, .slice KA kl kc, .int .i64 to_] := by rw [hW]; exact Blk.new _ _ _
  have h1 : FsI B w0 W q room ts d := h.go (by rw [hW]; exact below_alloc _ _)
  have C := fbsays hB
  simp only [cellsSay, Nat.reduceAdd, and_true] at C
  have HC := Lib.hid (create_any nm hn h1 hl)
  subst hk
  rw [show ((0 : Nat) : Int) = 0 from rfl] at f0
  obtain ⟨r, hr9⟩ : ∃ r, r = createD d nm := ⟨_, rfl⟩
  rw [← hr9] at HC ⊢
  clear h h1 hB hn hot hb6 hr hA hl hu hpl hm hbl hkl hr9
  go_enter Try.func31, Try.ntmps31
  go_upto_region 1 with fail
  rw [← hW]
  clear hW
  go_wp2_with fail
  refine HC.out.mono ?_
  rintro e w1 ⟨rfl, h1⟩
  have H1 := Lib.hid h1
  clear h1 HC C
  go_wp2_with fail
  go_ret
  exact ⟨rfl, H1.out⟩

set_option maxHeartbeats 2000000 in
theorem plays_6 {B q room : Nat} {w0 w : World} {ts : List Kt} {d : Fd} (o : Op8) (h : FsI B w0 w q room ts d) (hn : o.nm.length ≤ maxLen) (hot : o.ot.length ≤ maxLen) (hb6 : o.b.length ≤ 1000000) (hr : room ≤ 1048576) (hA : ∀ W d', FsI B w0 W q room ts d' → Bs W o.A o.b) (hl : d.lf ≤ 1000000) (hu : usedD d + o.b.length ≤ 100000) (hpl : d.P.length < 1000000) (hk : o.kd % 14 = 6) :
    Calls Try.prog 31 #[.pointer (some ⟨q, 0, none⟩), .agg #[.int .u8 (o.kd : Nat), .string ⟨o.nm.toArray⟩, .string ⟨o.ot.toArray⟩, .slice o.A o.b.length o.c, .int .i64 o.n, .slice o.KA o.kp.length o.kc, .int .i64 o.to_]] w fun e w' => e = .returned (.int .u16 ((playD room d o).1 : Nat)) ∧ FsI B w0 w' q room ts (playD room d o).2 := by
  rw [show playD room d o = syncD d o.nm by unfold playD; rw [if_neg (by omega), if_pos (.inl hk)]]
  obtain ⟨kd, nm, ot, A, c, b, n, KA, kc, kp, to_⟩ := o
  dsimp only at *
  obtain ⟨m, hm⟩ : ∃ m : Nat, m = kd % 14 := ⟨_, rfl⟩
  have f0 : (kd : Int) % 14 = (m : Int) := by rw [hm]; omega
  rw [← hm] at hk
  obtain ⟨bl, hbl⟩ : ∃ bl, bl = b.length := ⟨_, rfl⟩
  obtain ⟨kl, hkl⟩ : ∃ kl, kl = kp.length := ⟨_, rfl⟩
  rw [← hbl, ← hkl]
  obtain ⟨W, hW⟩ : ∃ W, W = w.alloc (.cells #[.int .u8 (kd : Nat), .string ⟨nm.toArray⟩, .string ⟨ot.toArray⟩, .slice A bl c, .int .i64 n, .slice KA kl kc, .int .i64 to_] 47) := ⟨_, rfl⟩
  have hB : Blk W w.heap.size 47 #[.int .u8 (kd : Nat), .string ⟨nm.toArray⟩, .string ⟨ot.toArray⟩, .slice A bl c, .int .i64 n, .slice KA kl kc, .int .i64 to_] := by rw [hW]; exact Blk.new _ _ _
  have h1 : FsI B w0 W q room ts d := h.go (by rw [hW]; exact below_alloc _ _)
  have C := fbsays hB
  simp only [cellsSay, Nat.reduceAdd, and_true] at C
  have HC := Lib.hid (sync_any nm hn h1 hl)
  subst hk
  rw [show ((6 : Nat) : Int) = 6 from rfl] at f0
  obtain ⟨r, hr9⟩ : ∃ r, r = syncD d nm := ⟨_, rfl⟩
  rw [← hr9] at HC ⊢
  clear h h1 hB hn hot hb6 hr hA hl hu hpl hm hbl hkl hr9
  go_enter Try.func31, Try.ntmps31
  go_upto_region 1 with fail
  rw [← hW]
  clear hW
  go_wp2_with fail
  refine HC.out.mono ?_
  rintro e w1 ⟨rfl, h1⟩
  have H1 := Lib.hid h1
  clear h1 HC C
  go_wp2_with fail
  go_ret
  exact ⟨rfl, H1.out⟩

set_option maxHeartbeats 2000000 in
theorem plays_7 {B q room : Nat} {w0 w : World} {ts : List Kt} {d : Fd} (o : Op8) (h : FsI B w0 w q room ts d) (hn : o.nm.length ≤ maxLen) (hot : o.ot.length ≤ maxLen) (hb6 : o.b.length ≤ 1000000) (hr : room ≤ 1048576) (hA : ∀ W d', FsI B w0 W q room ts d' → Bs W o.A o.b) (hl : d.lf ≤ 1000000) (hu : usedD d + o.b.length ≤ 100000) (hpl : d.P.length < 1000000) (hk : o.kd % 14 = 7) :
    Calls Try.prog 31 #[.pointer (some ⟨q, 0, none⟩), .agg #[.int .u8 (o.kd : Nat), .string ⟨o.nm.toArray⟩, .string ⟨o.ot.toArray⟩, .slice o.A o.b.length o.c, .int .i64 o.n, .slice o.KA o.kp.length o.kc, .int .i64 o.to_]] w fun e w' => e = .returned (.int .u16 ((playD room d o).1 : Nat)) ∧ FsI B w0 w' q room ts (playD room d o).2 := by
  rw [show playD room d o = syncD d o.nm by unfold playD; rw [if_neg (by omega), if_pos (.inr hk)]]
  obtain ⟨kd, nm, ot, A, c, b, n, KA, kc, kp, to_⟩ := o
  dsimp only at *
  obtain ⟨m, hm⟩ : ∃ m : Nat, m = kd % 14 := ⟨_, rfl⟩
  have f0 : (kd : Int) % 14 = (m : Int) := by rw [hm]; omega
  rw [← hm] at hk
  obtain ⟨bl, hbl⟩ : ∃ bl, bl = b.length := ⟨_, rfl⟩
  obtain ⟨kl, hkl⟩ : ∃ kl, kl = kp.length := ⟨_, rfl⟩
  rw [← hbl, ← hkl]
  obtain ⟨W, hW⟩ : ∃ W, W = w.alloc (.cells #[.int .u8 (kd : Nat), .string ⟨nm.toArray⟩, .string ⟨ot.toArray⟩, .slice A bl c, .int .i64 n, .slice KA kl kc, .int .i64 to_] 47) := ⟨_, rfl⟩
  have hB : Blk W w.heap.size 47 #[.int .u8 (kd : Nat), .string ⟨nm.toArray⟩, .string ⟨ot.toArray⟩, .slice A bl c, .int .i64 n, .slice KA kl kc, .int .i64 to_] := by rw [hW]; exact Blk.new _ _ _
  have h1 : FsI B w0 W q room ts d := h.go (by rw [hW]; exact below_alloc _ _)
  have C := fbsays hB
  simp only [cellsSay, Nat.reduceAdd, and_true] at C
  have HC := Lib.hid (sync_any nm hn h1 hl)
  subst hk
  rw [show ((7 : Nat) : Int) = 7 from rfl] at f0
  obtain ⟨r, hr9⟩ : ∃ r, r = syncD d nm := ⟨_, rfl⟩
  rw [← hr9] at HC ⊢
  clear h h1 hB hn hot hb6 hr hA hl hu hpl hm hbl hkl hr9
  go_enter Try.func31, Try.ntmps31
  go_upto_region 1 with fail
  rw [← hW]
  clear hW
  go_wp2_with fail
  refine HC.out.mono ?_
  rintro e w1 ⟨rfl, h1⟩
  have H1 := Lib.hid h1
  clear h1 HC C
  go_wp2_with fail
  go_ret
  exact ⟨rfl, H1.out⟩

set_option maxHeartbeats 2000000 in
theorem plays_8 {B q room : Nat} {w0 w : World} {ts : List Kt} {d : Fd} (o : Op8) (h : FsI B w0 w q room ts d) (hn : o.nm.length ≤ maxLen) (hot : o.ot.length ≤ maxLen) (hb6 : o.b.length ≤ 1000000) (hr : room ≤ 1048576) (hA : ∀ W d', FsI B w0 W q room ts d' → Bs W o.A o.b) (hl : d.lf ≤ 1000000) (hu : usedD d + o.b.length ≤ 100000) (hpl : d.P.length < 1000000) (hk : o.kd % 14 = 8) :
    Calls Try.prog 31 #[.pointer (some ⟨q, 0, none⟩), .agg #[.int .u8 (o.kd : Nat), .string ⟨o.nm.toArray⟩, .string ⟨o.ot.toArray⟩, .slice o.A o.b.length o.c, .int .i64 o.n, .slice o.KA o.kp.length o.kc, .int .i64 o.to_]] w fun e w' => e = .returned (.int .u16 ((playD room d o).1 : Nat)) ∧ FsI B w0 w' q room ts (playD room d o).2 := by
  rw [show playD room d o = cutD d o.nm o.n by unfold playD; rw [if_neg (by omega), if_neg (by omega), if_pos hk]]
  obtain ⟨kd, nm, ot, A, c, b, n, KA, kc, kp, to_⟩ := o
  dsimp only at *
  obtain ⟨m, hm⟩ : ∃ m : Nat, m = kd % 14 := ⟨_, rfl⟩
  have f0 : (kd : Int) % 14 = (m : Int) := by rw [hm]; omega
  rw [← hm] at hk
  obtain ⟨bl, hbl⟩ : ∃ bl, bl = b.length := ⟨_, rfl⟩
  obtain ⟨kl, hkl⟩ : ∃ kl, kl = kp.length := ⟨_, rfl⟩
  rw [← hbl, ← hkl]
  obtain ⟨W, hW⟩ : ∃ W, W = w.alloc (.cells #[.int .u8 (kd : Nat), .string ⟨nm.toArray⟩, .string ⟨ot.toArray⟩, .slice A bl c, .int .i64 n, .slice KA kl kc, .int .i64 to_] 47) := ⟨_, rfl⟩
  have hB : Blk W w.heap.size 47 #[.int .u8 (kd : Nat), .string ⟨nm.toArray⟩, .string ⟨ot.toArray⟩, .slice A bl c, .int .i64 n, .slice KA kl kc, .int .i64 to_] := by rw [hW]; exact Blk.new _ _ _
  have h1 : FsI B w0 W q room ts d := h.go (by rw [hW]; exact below_alloc _ _)
  have C := fbsays hB
  simp only [cellsSay, Nat.reduceAdd, and_true] at C
  have HC := Lib.hid (cut_any nm n hn h1 hl)
  subst hk
  rw [show ((8 : Nat) : Int) = 8 from rfl] at f0
  obtain ⟨r, hr9⟩ : ∃ r, r = cutD d nm n := ⟨_, rfl⟩
  rw [← hr9] at HC ⊢
  clear h h1 hB hn hot hb6 hr hA hl hu hpl hm hbl hkl hr9
  go_enter Try.func31, Try.ntmps31
  go_upto_region 1 with fail
  rw [← hW]
  clear hW
  go_wp2_with fail
  refine HC.out.mono ?_
  rintro e w1 ⟨rfl, h1⟩
  have H1 := Lib.hid h1
  clear h1 HC C
  go_wp2_with fail
  go_ret
  exact ⟨rfl, H1.out⟩

set_option maxHeartbeats 2000000 in
theorem plays_9 {B q room : Nat} {w0 w : World} {ts : List Kt} {d : Fd} (o : Op8) (h : FsI B w0 w q room ts d) (hn : o.nm.length ≤ maxLen) (hot : o.ot.length ≤ maxLen) (hb6 : o.b.length ≤ 1000000) (hr : room ≤ 1048576) (hA : ∀ W d', FsI B w0 W q room ts d' → Bs W o.A o.b) (hl : d.lf ≤ 1000000) (hu : usedD d + o.b.length ≤ 100000) (hpl : d.P.length < 1000000) (hk : o.kd % 14 = 9) :
    Calls Try.prog 31 #[.pointer (some ⟨q, 0, none⟩), .agg #[.int .u8 (o.kd : Nat), .string ⟨o.nm.toArray⟩, .string ⟨o.ot.toArray⟩, .slice o.A o.b.length o.c, .int .i64 o.n, .slice o.KA o.kp.length o.kc, .int .i64 o.to_]] w fun e w' => e = .returned (.int .u16 ((playD room d o).1 : Nat)) ∧ FsI B w0 w' q room ts (playD room d o).2 := by
  rw [show playD room d o = renameD d o.nm o.ot by unfold playD; rw [if_neg (by omega), if_neg (by omega), if_neg (by omega), if_pos hk]]
  obtain ⟨kd, nm, ot, A, c, b, n, KA, kc, kp, to_⟩ := o
  dsimp only at *
  obtain ⟨m, hm⟩ : ∃ m : Nat, m = kd % 14 := ⟨_, rfl⟩
  have f0 : (kd : Int) % 14 = (m : Int) := by rw [hm]; omega
  rw [← hm] at hk
  obtain ⟨bl, hbl⟩ : ∃ bl, bl = b.length := ⟨_, rfl⟩
  obtain ⟨kl, hkl⟩ : ∃ kl, kl = kp.length := ⟨_, rfl⟩
  rw [← hbl, ← hkl]
  obtain ⟨W, hW⟩ : ∃ W, W = w.alloc (.cells #[.int .u8 (kd : Nat), .string ⟨nm.toArray⟩, .string ⟨ot.toArray⟩, .slice A bl c, .int .i64 n, .slice KA kl kc, .int .i64 to_] 47) := ⟨_, rfl⟩
  have hB : Blk W w.heap.size 47 #[.int .u8 (kd : Nat), .string ⟨nm.toArray⟩, .string ⟨ot.toArray⟩, .slice A bl c, .int .i64 n, .slice KA kl kc, .int .i64 to_] := by rw [hW]; exact Blk.new _ _ _
  have h1 : FsI B w0 W q room ts d := h.go (by rw [hW]; exact below_alloc _ _)
  have C := fbsays hB
  simp only [cellsSay, Nat.reduceAdd, and_true] at C
  have HC := Lib.hid (rename_any nm ot hn hot h1 hl)
  subst hk
  rw [show ((9 : Nat) : Int) = 9 from rfl] at f0
  obtain ⟨r, hr9⟩ : ∃ r, r = renameD d nm ot := ⟨_, rfl⟩
  rw [← hr9] at HC ⊢
  clear h h1 hB hn hot hb6 hr hA hl hu hpl hm hbl hkl hr9
  go_enter Try.func31, Try.ntmps31
  go_upto_region 1 with fail
  rw [← hW]
  clear hW
  go_wp2_with fail
  refine HC.out.mono ?_
  rintro e w1 ⟨rfl, h1⟩
  have H1 := Lib.hid h1
  clear h1 HC C
  go_wp2_with fail
  go_ret
  exact ⟨rfl, H1.out⟩

set_option maxHeartbeats 2000000 in
theorem plays_10 {B q room : Nat} {w0 w : World} {ts : List Kt} {d : Fd} (o : Op8) (h : FsI B w0 w q room ts d) (hn : o.nm.length ≤ maxLen) (hot : o.ot.length ≤ maxLen) (hb6 : o.b.length ≤ 1000000) (hr : room ≤ 1048576) (hA : ∀ W d', FsI B w0 W q room ts d' → Bs W o.A o.b) (hl : d.lf ≤ 1000000) (hu : usedD d + o.b.length ≤ 100000) (hpl : d.P.length < 1000000) (hk : o.kd % 14 = 10) :
    Calls Try.prog 31 #[.pointer (some ⟨q, 0, none⟩), .agg #[.int .u8 (o.kd : Nat), .string ⟨o.nm.toArray⟩, .string ⟨o.ot.toArray⟩, .slice o.A o.b.length o.c, .int .i64 o.n, .slice o.KA o.kp.length o.kc, .int .i64 o.to_]] w fun e w' => e = .returned (.int .u16 ((playD room d o).1 : Nat)) ∧ FsI B w0 w' q room ts (playD room d o).2 := by
  rw [show playD room d o = removeD d o.nm by unfold playD; rw [if_neg (by omega), if_neg (by omega), if_neg (by omega), if_neg (by omega), if_pos hk]]
  obtain ⟨kd, nm, ot, A, c, b, n, KA, kc, kp, to_⟩ := o
  dsimp only at *
  obtain ⟨m, hm⟩ : ∃ m : Nat, m = kd % 14 := ⟨_, rfl⟩
  have f0 : (kd : Int) % 14 = (m : Int) := by rw [hm]; omega
  rw [← hm] at hk
  obtain ⟨bl, hbl⟩ : ∃ bl, bl = b.length := ⟨_, rfl⟩
  obtain ⟨kl, hkl⟩ : ∃ kl, kl = kp.length := ⟨_, rfl⟩
  rw [← hbl, ← hkl]
  obtain ⟨W, hW⟩ : ∃ W, W = w.alloc (.cells #[.int .u8 (kd : Nat), .string ⟨nm.toArray⟩, .string ⟨ot.toArray⟩, .slice A bl c, .int .i64 n, .slice KA kl kc, .int .i64 to_] 47) := ⟨_, rfl⟩
  have hB : Blk W w.heap.size 47 #[.int .u8 (kd : Nat), .string ⟨nm.toArray⟩, .string ⟨ot.toArray⟩, .slice A bl c, .int .i64 n, .slice KA kl kc, .int .i64 to_] := by rw [hW]; exact Blk.new _ _ _
  have h1 : FsI B w0 W q room ts d := h.go (by rw [hW]; exact below_alloc _ _)
  have C := fbsays hB
  simp only [cellsSay, Nat.reduceAdd, and_true] at C
  have HC := Lib.hid (remove_any nm hn h1 hl)
  subst hk
  rw [show ((10 : Nat) : Int) = 10 from rfl] at f0
  obtain ⟨r, hr9⟩ : ∃ r, r = removeD d nm := ⟨_, rfl⟩
  rw [← hr9] at HC ⊢
  clear h h1 hB hn hot hb6 hr hA hl hu hpl hm hbl hkl hr9
  go_enter Try.func31, Try.ntmps31
  go_upto_region 1 with fail
  rw [← hW]
  clear hW
  go_wp2_with fail
  refine HC.out.mono ?_
  rintro e w1 ⟨rfl, h1⟩
  have H1 := Lib.hid h1
  clear h1 HC C
  go_wp2_with fail
  go_ret
  exact ⟨rfl, H1.out⟩

set_option maxHeartbeats 2000000 in
theorem plays_x {B q room : Nat} {w0 w : World} {ts : List Kt} {d : Fd} (o : Op8) (h : FsI B w0 w q room ts d) (hn : o.nm.length ≤ maxLen) (hot : o.ot.length ≤ maxLen) (hb6 : o.b.length ≤ 1000000) (hr : room ≤ 1048576) (hA : ∀ W d', FsI B w0 W q room ts d' → Bs W o.A o.b) (hl : d.lf ≤ 1000000) (hu : usedD d + o.b.length ≤ 100000) (hpl : d.P.length < 1000000) (hk : (o.kd % 14 ≠ 0 ∧ o.kd % 14 ≠ 6 ∧ o.kd % 14 ≠ 7 ∧ o.kd % 14 ≠ 8 ∧ o.kd % 14 ≠ 9 ∧ o.kd % 14 ≠ 10)) :
    Calls Try.prog 31 #[.pointer (some ⟨q, 0, none⟩), .agg #[.int .u8 (o.kd : Nat), .string ⟨o.nm.toArray⟩, .string ⟨o.ot.toArray⟩, .slice o.A o.b.length o.c, .int .i64 o.n, .slice o.KA o.kp.length o.kc, .int .i64 o.to_]] w fun e w' => e = .returned (.int .u16 ((playD room d o).1 : Nat)) ∧ FsI B w0 w' q room ts (playD room d o).2 := by
  rw [show playD room d o = appendD room d o.nm o.b by unfold playD; rw [if_neg (by omega), if_neg (by omega), if_neg (by omega), if_neg (by omega), if_neg (by omega)]]
  obtain ⟨kd, nm, ot, A, c, b, n, KA, kc, kp, to_⟩ := o
  dsimp only at *
  obtain ⟨m, hm⟩ : ∃ m : Nat, m = kd % 14 := ⟨_, rfl⟩
  have f0 : (kd : Int) % 14 = (m : Int) := by rw [hm]; omega
  rw [← hm] at hk
  obtain ⟨bl, hbl⟩ : ∃ bl, bl = b.length := ⟨_, rfl⟩
  obtain ⟨kl, hkl⟩ : ∃ kl, kl = kp.length := ⟨_, rfl⟩
  rw [← hbl, ← hkl]
  obtain ⟨W, hW⟩ : ∃ W, W = w.alloc (.cells #[.int .u8 (kd : Nat), .string ⟨nm.toArray⟩, .string ⟨ot.toArray⟩, .slice A bl c, .int .i64 n, .slice KA kl kc, .int .i64 to_] 47) := ⟨_, rfl⟩
  have hB : Blk W w.heap.size 47 #[.int .u8 (kd : Nat), .string ⟨nm.toArray⟩, .string ⟨ot.toArray⟩, .slice A bl c, .int .i64 n, .slice KA kl kc, .int .i64 to_] := by rw [hW]; exact Blk.new _ _ _
  have h1 : FsI B w0 W q room ts d := h.go (by rw [hW]; exact below_alloc _ _)
  have C := fbsays hB
  simp only [cellsSay, Nat.reduceAdd, and_true] at C
  have HC := Lib.hid (append_any nm hn A c b h1 hb6 hr hA hl hu hpl)
  rw [← hbl] at HC
  have g0 : ((m : Int) == 0) = false := beq_eq_false_iff_ne.2 (by omega)
  have g6 : ((m : Int) == 6) = false := beq_eq_false_iff_ne.2 (by omega)
  have g7 : ((m : Int) == 7) = false := beq_eq_false_iff_ne.2 (by omega)
  have g8 : ((m : Int) == 8) = false := beq_eq_false_iff_ne.2 (by omega)
  have g9 : ((m : Int) == 9) = false := beq_eq_false_iff_ne.2 (by omega)
  have g10 : ((m : Int) == 10) = false := beq_eq_false_iff_ne.2 (by omega)
  obtain ⟨r, hr9⟩ : ∃ r, r = appendD room d nm b := ⟨_, rfl⟩
  rw [← hr9] at HC ⊢
  clear h h1 hB hn hot hb6 hr hA hl hu hpl hm hbl hkl hr9 hk
  go_enter Try.func31, Try.ntmps31
  go_upto_region 1 with fail
  rw [← hW]
  clear hW
  go_wp2_with fail
  refine HC.out.mono ?_
  rintro e w1 ⟨rfl, h1⟩
  have H1 := Lib.hid h1
  clear h1 HC C
  go_wp2_with fail
  go_ret
  exact ⟨rfl, H1.out⟩

theorem plays_any {B q room : Nat} {w0 w : World} {ts : List Kt} {d : Fd} (o : Op8) (h : FsI B w0 w q room ts d) (hn : o.nm.length ≤ maxLen) (hot : o.ot.length ≤ maxLen) (hb6 : o.b.length ≤ 1000000) (hr : room ≤ 1048576) (hA : ∀ W d', FsI B w0 W q room ts d' → Bs W o.A o.b) (hl : d.lf ≤ 1000000) (hu : usedD d + o.b.length ≤ 100000) (hpl : d.P.length < 1000000) :
    Calls Try.prog 31 #[.pointer (some ⟨q, 0, none⟩), .agg #[.int .u8 (o.kd : Nat), .string ⟨o.nm.toArray⟩, .string ⟨o.ot.toArray⟩, .slice o.A o.b.length o.c, .int .i64 o.n, .slice o.KA o.kp.length o.kc, .int .i64 o.to_]] w fun e w' => e = .returned (.int .u16 ((playD room d o).1 : Nat)) ∧ FsI B w0 w' q room ts (playD room d o).2 := by
  by_cases k0 : o.kd % 14 = 0
  · exact plays_0 o h hn hot hb6 hr hA hl hu hpl k0
  by_cases k6 : o.kd % 14 = 6
  · exact plays_6 o h hn hot hb6 hr hA hl hu hpl k6
  by_cases k7 : o.kd % 14 = 7
  · exact plays_7 o h hn hot hb6 hr hA hl hu hpl k7
  by_cases k8 : o.kd % 14 = 8
  · exact plays_8 o h hn hot hb6 hr hA hl hu hpl k8
  by_cases k9 : o.kd % 14 = 9
  · exact plays_9 o h hn hot hb6 hr hA hl hu hpl k9
  by_cases k10 : o.kd % 14 = 10
  · exact plays_10 o h hn hot hb6 hr hA hl hu hpl k10
  exact plays_x o h hn hot hb6 hr hA hl hu hpl ⟨k0, k6, k7, k8, k9, k10⟩

end Go.Proofs.Ytiogckgchlnldaa

/- Layer 8: known. -/
set_option linter.unusedSimpArgs false
set_option linter.unusedVariables false
namespace Go.Proofs.Ytiogckgchlnldaa
open Go.RowKit
set_option maxRecDepth 100000

def nA : Nm := [97]
def kd1 : Fd := ⟨[(nA, [])], [], false, 0, false⟩
def kd2 : Fd := ⟨[(nA, [])], [(nA, [1, 2])], false, 0, false⟩
def kd3 : Fd := ⟨[(nA, [1, 2])], [], false, 0, false⟩
def kd4 : Fd := ⟨[(nA, [1, 2])], [(nA, [3])], false, 0, false⟩
def kd5 : Fd := ⟨[(nA, [1, 2])], [(nA, [3]), (nA, [4, 5])], false, 0, false⟩
def kd6 : Fd := ⟨[(nA, [1, 2, 0, 4])], [], false, 0, false⟩
theorem k_1 : createD fd0 nA = (0, kd1) := by kernel_rfl
theorem k_2 : appendD (100 : Nat) kd1 nA [1, 2] = (0, kd2) := by kernel_rfl
theorem k_3 : syncD kd2 nA = (0, kd3) := by kernel_rfl
theorem k_4 : appendD (100 : Nat) kd3 nA [3] = (0, kd4) := by kernel_rfl
theorem k_5 : appendD (100 : Nat) kd4 nA [4, 5] = (0, kd5) := by kernel_rfl
theorem k_6 : crashD kd5 (kpt [false, true]) 1 = kd6 := by kernel_rfl
theorem k_7 : rdD kd6 nA = some [1, 2, 0, 4] := by kernel_rfl
theorem k_8 : usedD kd6 = 4 := by kernel_rfl
theorem bo_blk {w : World} {g : Nat} {kp : List Bool} (h : Blk w g 4 (kp.map Value.bool).toArray) : Bo w (some ⟨g, 0, none⟩) kp := fun i x hi => ⟨g, 0, rfl, by
  have := h.cell i
  rw [Nat.zero_add, this]
  simp [hi]⟩

set_option maxHeartbeats 8000000 in
theorem fknown8_any (w : World) : Calls Try.prog 13 #[] w fun e w' => e = .returned (.bool true) ∧ Below w.heap.size w w' := by
  have HN := Lib.hid (new_any (Sep.nil (Below.refl w.heap.size w) (Nat.le_refl _)) 100 (by omega))
  go_enter Try.func13, Try.ntmps13
  go_wp2_with fail
  refine HN.out.mono ?_
  rintro e w1 ⟨q, rfl, h1⟩
  have H1 := Lib.hid h1
  have HC := Lib.hid (create_any nA (by decide) h1 (by decide))
  rw [k_1] at HC
  clear HN h1
  go_wp2_with fail
  refine HC.out.mono ?_
  rintro e w2 ⟨rfl, h2⟩
  have H2 := Lib.hid h2
  clear h2 HC H1
  obtain ⟨W, hW⟩ : ∃ W, W = w2.alloc (.cells #[.int .u8 1, .int .u8 2] 5) := ⟨_, rfl⟩
  have h3 : FsI w.heap.size w W q 100 [thO (.slice (some ⟨w2.heap.size, 0, none⟩) 2 2) [1, 2]] kd1 := H2.out.cons (by rw [hW]; exact below_alloc _ _) (by rw [hW]; exact own_built w2 [1, 2] (Nat.zero_le _) (by decide)) (fun k e => by
    have e : w2.heap.size = k := by injection e
    omega)
  have HC := Lib.hid (append_any nA (by decide) (some ⟨w2.heap.size, 0, none⟩) 2 [1, 2] h3 (by decide) (by omega) (fun W d' hs => OwnB.bs (hs.get 0 rfl)) (by decide) (by decide +kernel) (by decide))
  rw [k_2] at HC
  clear h3 H2
  go_upto_region 5 with fail
  go_wp2_with fail
  rw [← hW]
  clear hW
  refine HC.out.mono ?_
  rintro e w3 ⟨rfl, h3⟩
  have h3 := h3.tail
  have HC := Lib.hid (sync_any nA (by decide) h3 (by decide))
  rw [k_3] at HC
  clear h3
  go_wp2_with fail
  refine HC.out.mono ?_
  rintro e w4 ⟨rfl, h4⟩
  have H4 := Lib.hid h4
  clear h4 HC
  obtain ⟨W, hW⟩ : ∃ W, W = w4.alloc (.cells #[.int .u8 3] 5) := ⟨_, rfl⟩
  have h5 : FsI w.heap.size w W q 100 [thO (.slice (some ⟨w4.heap.size, 0, none⟩) 1 1) [3]] kd3 := H4.out.cons (by rw [hW]; exact below_alloc _ _) (by rw [hW]; exact own_built w4 [3] (Nat.zero_le _) (by decide)) (fun k e => by
    have e : w4.heap.size = k := by injection e
    omega)
  have HC := Lib.hid (append_any nA (by decide) (some ⟨w4.heap.size, 0, none⟩) 1 [3] h5 (by decide) (by omega) (fun W d' hs => OwnB.bs (hs.get 0 rfl)) (by decide) (by decide +kernel) (by decide))
  rw [k_4] at HC
  clear h5 H4
  go_wp2_with fail
  rw [← hW]
  clear hW
  refine HC.out.mono ?_
  rintro e w5 ⟨rfl, h5⟩
  have H5 := Lib.hid h5.tail
  clear h5 HC
  obtain ⟨W, hW⟩ : ∃ W, W = w5.alloc (.cells #[.int .u8 4, .int .u8 5] 5) := ⟨_, rfl⟩
  have h6 : FsI w.heap.size w W q 100 [thO (.slice (some ⟨w5.heap.size, 0, none⟩) 2 2) [4, 5]] kd4 := H5.out.cons (by rw [hW]; exact below_alloc _ _) (by rw [hW]; exact own_built w5 [4, 5] (Nat.zero_le _) (by decide)) (fun k e => by
    have e : w5.heap.size = k := by injection e
    omega)
  have HC := Lib.hid (append_any nA (by decide) (some ⟨w5.heap.size, 0, none⟩) 2 [4, 5] h6 (by decide) (by omega) (fun W d' hs => OwnB.bs (hs.get 0 rfl)) (by decide) (by decide +kernel) (by decide))
  rw [k_5] at HC
  clear h6 H5
  go_wp2_with fail
  rw [← hW]
  clear hW
  refine HC.out.mono ?_
  rintro e w6 ⟨rfl, h6⟩
  have H6 := Lib.hid h6.tail
  clear h6 HC
  obtain ⟨W, hW⟩ : ∃ W, W = w6.alloc (.cells #[.bool false, .bool true] 4) := ⟨_, rfl⟩
  have h7 : FsI w.heap.size w W q 100 [thB w6.heap.size 4 #[.bool false, .bool true]] kd5 := H6.out.cons (by rw [hW]; exact below_alloc _ _) (by rw [hW]; exact Blk.new _ _ _) (fun k e => by
    have e : k = w6.heap.size := e
    omega)
  have HC := Lib.hid (crash_any [false, true] (some ⟨w6.heap.size, 0, none⟩) 2 2 rfl 1 h7 (fun W hs => bo_blk (Sep.blk hs 0)) (by decide))
  rw [k_6] at HC
  clear h7 H6
  go_wp2_with fail
  rw [← hW]
  clear hW
  refine HC.out.mono ?_
  rintro e w7 ⟨rfl, h7⟩
  have h7 := h7.tail
  have H7 := Lib.hid h7
  have HC := Lib.hid (read_some nA (by decide) h7 _ k_7)
  clear h7
  go_wp2_with fail
  refine HC.out.mono ?_
  rintro e w8 ⟨A, c, rfl, h8⟩
  obtain ⟨o8, b8⟩ := h8.out
  have f8 := H7.out.go b8
  have HB := Lib.hid f8.b
  obtain ⟨g, hg⟩ : ∃ g, A = some ⟨g, 0, none⟩ := by
    rcases o8.2 with ⟨h9, _⟩ | ⟨g9, cap9, cur, h9, _⟩
    · injection h9 with h9 h10 _; cases h10
    · injection h9 with h9 _ _; exact ⟨g9, h9⟩
  subst hg
  have e0 : w8.cell? ⟨g, 0, none⟩ = some (.int .u8 1) := OwnB.cell o8 0 (by decide)
  have e1 : w8.cell? ⟨g, 1, none⟩ = some (.int .u8 2) := OwnB.cell o8 1 (by decide)
  have e2 : w8.cell? ⟨g, 2, none⟩ = some (.int .u8 0) := OwnB.cell o8 2 (by decide)
  have e3 : w8.cell? ⟨g, 3, none⟩ = some (.int .u8 4) := OwnB.cell o8 3 (by decide)
  have HU := Lib.hid (used_any f8)
  rw [k_8] at HU
  clear o8 b8 h8 f8 HC H7
  go_wp2_with fail
  refine HU.out.mono ?_
  rintro e w9 ⟨rfl, h9⟩
  have H9 := Lib.hid h9
  clear h9 HU e0 e1 e2 e3
  go_wp2_with fail
  go_ret
  exact ⟨rfl, on1 HB.out H9.out⟩

end Go.Proofs.Ytiogckgchlnldaa

/- Layer 8: a thing beside a file system turns; a row's front as a slice; bytes that are cut. -/
set_option linter.unusedSimpArgs false
set_option linter.unusedVariables false
namespace Go.Proofs.Ytiogckgchlnldaa
open Go.RowKit
set_option maxRecDepth 100000

section
variable {B q room : Nat} {w0 w w' : World} {ts us : List Kt} {t t' : Kt} {d : Fd}
/-- a call turns a thing beside the file system -/
theorem FsI.turn (h : FsI B w0 w q room ts d) (i : Nat) (e : ts[i]? = some t) (hT : Tou t.F w w') (hP : t'.P w') (hN : ∀ k, t'.F k → t.F k ∨ w.heap.size ≤ k) : FsI B w0 w' q room (ts.set i t') d := by
  obtain ⟨bm, VW, T, hs, hi⟩ := h
  have e2 : (thB q 87 (fsc room bm VW d) :: thM bm (nmG T) :: thP VW (pcL T d.P) :: (T.map thF ++ ts))[i + (T.map thF).length + 3]? = some t := by
    rw [List.getElem?_cons_succ, List.getElem?_cons_succ, List.getElem?_cons_succ, List.getElem?_append_right (by omega), Nat.add_sub_cancel]
    exact e
  have h2 := hs.call _ e2 hT hP hN
  refine ⟨bm, VW, T, ?_, hi⟩
  rw [List.set_cons_succ, List.set_cons_succ, List.set_cons_succ, List.set_append_right _ _ (by omega), Nat.add_sub_cancel] at h2
  exact h2
theorem FsI.keepK (h : FsI B w0 w q room ts d) (hB : w0.heap.size ≤ B) {A : Option Addr} {l : List Bool} (b : Bo w0 A l) : Bo w A l := fun i x hi => by
  obtain ⟨p, o, hA, hc⟩ := b i x hi
  exact ⟨p, o, hA, h.old hB hc⟩
end
theorem sep_keepK {B : Nat} {w0 w : World} {ts : List Kt} (h : Sep B w0 w ts) (hB : w0.heap.size ≤ B) {A : Option Addr} {l : List Bool} (b : Bo w0 A l) : Bo w A l := fun i x hi => by
  obtain ⟨p, o, hA, hc⟩ := b i x hi
  exact ⟨p, o, hA, h.old hB hc⟩
/-- bytes of the call's own grow: a thing beside -/
theorem thO_grown {w w' : World} {v v' : Value} {l' : List UInt8} (ho : OwnB w' 0 v' l') (hg : w.grownBy w' v.ownBlock) (hl : ∀ j, v'.ownBlock = some j → v.ownBlock = some j ∨ w.heap.size ≤ j) {l : List UInt8} :
    Tou (thO v l).F w w' ∧ (thO v' l').P w' ∧ ∀ k, (thO v' l').F k → (thO v l).F k ∨ w.heap.size ≤ k :=
  ⟨Tou.of_grown hg (fun k e => e), ho, hl⟩
theorem run_front (A : Option Addr) (n c k : Nat) (hk : k ≤ c) (hA : ∀ a, A = some a → ∃ p o, a = ⟨p, o, none⟩) (h0 : A = none → c = 0) (w : World) : (Instr.sliceAt 32 (.slice A n c) none (some (.int .i64 k)) none).run Try.prog w = .ok (.slice A k c) w := by
  rcases A with _ | a
  · have := h0 rfl
    subst this
    obtain rfl : k = 0 := by omega
    simp [go_sem]
  · obtain ⟨p, o, rfl⟩ := hA a rfl
    by_cases hc : c = 0
    · subst hc
      obtain rfl : k = 0 := by omega
      simp [go_sem]
    · have : ¬ c = 0 := hc
      simp [go_sem, hk, this, Addr.add]
theorem run_front2 (A : Option Addr) (n c k : Nat) (hk : k ≤ c) (hA : ∀ a, A = some a → ∃ p o, a = ⟨p, o, none⟩) (h0 : A = none → c = 0) (w : World) : (Instr.slice 32 (.slice A n c) none (some (.int .i64 k)) none).run Try.prog w = .ok (.slice A k c) w :=
  (run_sliceAt_slice w 32 _ _ _ _ Try.underlying32).symm.trans (run_front A n c k hk hA h0 w)
theorem own_shape {w : World} {base n c : Nat} {A : Option Addr} {l : List UInt8} (h : OwnB w base (.slice A n c) l) : l.length ≤ c ∧ (∀ a, A = some a → ∃ p o, a = ⟨p, o, none⟩) ∧ (A = none → c = 0) := by
  rcases h.2 with ⟨hv, h0⟩ | ⟨g, cap, cur, hv, hbg, hgg, hn, hm, hs, ht⟩
  · injection hv with e1 e2 e3
    subst e1 e3
    exact ⟨Nat.le_of_eq h0, fun a e => (by cases e), fun _ => rfl⟩
  · injection hv with e1 e2 e3
    subst e1 e3
    exact ⟨hn, fun a e => (by injection e with e; exact ⟨_, _, e.symm⟩), fun e => (by cases e)⟩
theorem str_front {w : World} {A : Option Addr} {l : List UInt8} (h : Bs w A l) (k c : Nat) (hk : k ≤ l.length) : (convert 32 9 (.slice A k c)).run Try.prog w = .ok (.string ⟨(l.take k).toArray⟩) w := by
  have h1 := str_of (l := l.take k) (A := A) (w := w) (fun i x hi => by
    rw [List.getElem?_take] at hi
    split at hi
    · exact h i x hi
    · cases hi) c
  rw [List.length_take, Nat.min_eq_left hk] at h1
  exact h1
theorem lies_all {all r : List UInt8} (h : liesIn all.length all r) : r = all := by
  obtain ⟨h1, h2, h3, _⟩ := h
  rw [List.take_length, List.take_of_length_le h2] at h3
  exact h3

end Go.Proofs.Ytiogckgchlnldaa

/- Layer 8: heavy. -/
set_option linter.unusedSimpArgs false
set_option linter.unusedVariables false
namespace Go.Proofs.Ytiogckgchlnldaa
open Go.RowKit
set_option maxRecDepth 100000

def bigO (o : Op8) : Bool := decide (300 < o.b.length) || decide (40 < o.nm.length) || decide (40 < o.ot.length) || decide (60 < o.kp.length)
/-- what heavy says -/
def heavyL (l : List Op8) : Bool := decide (50 < l.length) || l.any bigO
theorem bigO_no {o : Op8} (h : bigO o = false) : o.b.length ≤ 300 ∧ o.nm.length ≤ 40 ∧ o.ot.length ≤ 40 ∧ o.kp.length ≤ 60 := by
  unfold bigO at h
  simp only [Bool.or_eq_false_iff] at h
  obtain ⟨⟨⟨h1, h2⟩, h3⟩, h4⟩ := h
  have := of_decide_eq_false h1
  have := of_decide_eq_false h2
  have := of_decide_eq_false h3
  have := of_decide_eq_false h4
  omega
theorem heavyL_no {l : List Op8} (h : heavyL l = false) : l.length ≤ 50 ∧ ∀ o ∈ l, bigO o = false := by
  unfold heavyL at h
  rw [Bool.or_eq_false_iff] at h
  refine ⟨by have := of_decide_eq_false h.1; omega, fun o ho => ?_⟩
  have := List.any_eq_false.1 h.2 o ho
  cases hb : bigO o
  · rfl
  · exact absurd hb this

set_option maxHeartbeats 4000000 in
theorem heavy8_any (V : Option Addr) (c : Nat) (l : List Op8) (w : World) (hV : Rw w encOp8 7 V l) (hl : l.length ≤ maxLen) :
    Calls Try.prog 23 #[.slice V l.length c] w fun e w' => e = .returned (.bool (heavyL l)) ∧ Below w.heap.size w w' := by
  obtain ⟨n, hn⟩ : ∃ n, n = l.length := ⟨_, rfl⟩
  rw [← hn]
  by_cases h50 : 50 < n
  · have hd : decide ((50 : Int) < (n : Int)) = true := decide_eq_true (by omega)
    have he : heavyL l = true := by unfold heavyL; rw [← hn, decide_eq_true h50]; rfl
    rw [he]
    clear hV hl he hn
    go_enter Try.func23, Try.ntmps23
    go_wp2_with fail
    go_ret
    exact ⟨rfl, Below.refl _ _⟩
  · have hd : decide ((50 : Int) < (n : Int)) = false := decide_eq_false (by omega)
    have hn50 : n ≤ 50 := by omega
    have HV := Lib.hid hV
    have Hn := Lib.hid hn
    have hdn : Hid (decide (50 < l.length) = false) := Lib.hid (by rw [← hn]; exact decide_eq_false h50)
    clear hV hl hn h50
    go_enter Try.func23, Try.ntmps23
    go_wp2_with fail
    go_loopw [3] (fun s wr => ∃ k : Nat, k ≤ n ∧ s = .int .i64 k ∧ Hid (Below w.heap.size w wr ∧ ∀ o ∈ l.take k, bigO o = false)) (fun s _ => n - (intOf s).toNat)
    case atStart => exact ⟨0, Nat.zero_le _, rfl, Lib.hid ⟨Below.refl _ _, by simp⟩⟩
    case round =>
      obtain ⟨k, hk, rfl, HR⟩ := hrel
      by_cases hlt : k < n
      · obtain ⟨o, ho⟩ : ∃ o, l[k]? = some o := ⟨_, List.getElem?_eq_getElem (by rw [← Hn.out]; exact hlt)⟩
        obtain ⟨p, f, rfl, hc⟩ := (HV.out.below HR.out.1 (Nat.le_refl _)) k o ho
        have c0 := hc 0 _ rfl
        have c1 := hc 1 _ rfl
        have c2 := hc 2 _ rfl
        have c3 := hc 3 _ rfl
        have c4 := hc 4 _ rfl
        have c5 := hc 5 _ rfl
        have c6 := hc 6 _ rfl
        simp only [Nat.add_zero] at c0
        obtain ⟨kd, nm, ot, A, cc, b, n9, KA, kc, kp, to_⟩ := o
        dsimp only at c0 c1 c2 c3 c4 c5 c6
        obtain ⟨bl, hbl⟩ : ∃ m, m = b.length := ⟨_, rfl⟩
        obtain ⟨kl, hkl⟩ : ∃ m, m = kp.length := ⟨_, rfl⟩
        rw [← hbl] at c3
        rw [← hkl] at c5
        have hkln : (k : Int) < (n : Int) := by omega
        have hk0 : (0 : Int) ≤ (k : Int) := by omega
        have hbig : bigO ⟨kd, nm, ot, A, cc, b, n9, KA, kc, kp, to_⟩ = (decide (300 < bl) || decide (40 < nm.length) || decide (40 < ot.length) || decide (60 < kl)) := by rw [hbl, hkl]; rfl
        obtain ⟨W, hW⟩ : ∃ W, W = wr.alloc (.cells #[.int .u8 (kd : Nat), .string ⟨nm.toArray⟩, .string ⟨ot.toArray⟩, .slice A bl cc, .int .i64 n9, .slice KA kl kc, .int .i64 to_] 47) := ⟨_, rfl⟩
        have HX := Lib.hid (show Below w.heap.size w W ∧ l[k]? = some ⟨kd, nm, ot, A, cc, b, n9, KA, kc, kp, to_⟩ from ⟨by rw [hW]; exact HR.out.1.alloc HR.out.1.size _, ho⟩)
        clear hc ho hbl hkl
        by_cases t0 : 300 < bl
        · have d0 : decide ((300 : Int) < (bl : Int)) = true := decide_eq_true (by omega)
          have he : Hid (heavyL l = true) := Lib.hid (by
            unfold heavyL
            rw [Bool.or_eq_true]
            right
            exact List.any_eq_true.2 ⟨_, List.mem_of_getElem? HX.out.2, by rw [hbig]; simp only [Bool.or_eq_true, decide_eq_true_eq]; omega⟩)
          clear hbig
          go_upto_region 7 with fail
          go_wp2_with fail
          go_ret
          exact ⟨by simp [he.out], by rw [← hW]; exact HX.out.1⟩
        · have d0 : decide ((300 : Int) < (bl : Int)) = false := decide_eq_false (by omega)
          by_cases t1 : 40 < nm.length
          · have d1 : decide ((40 : Int) < (nm.length : Int)) = true := decide_eq_true (by omega)
            have he : Hid (heavyL l = true) := Lib.hid (by
              unfold heavyL
              rw [Bool.or_eq_true]
              right
              exact List.any_eq_true.2 ⟨_, List.mem_of_getElem? HX.out.2, by rw [hbig]; simp only [Bool.or_eq_true, decide_eq_true_eq]; omega⟩)
            clear hbig
            go_upto_region 7 with fail
            go_wp2_with fail
            go_ret
            exact ⟨by simp [he.out], by rw [← hW]; exact HX.out.1⟩
          · have d1 : decide ((40 : Int) < (nm.length : Int)) = false := decide_eq_false (by omega)
            by_cases t2 : 40 < ot.length
            · have d2 : decide ((40 : Int) < (ot.length : Int)) = true := decide_eq_true (by omega)
              have he : Hid (heavyL l = true) := Lib.hid (by
                unfold heavyL
                rw [Bool.or_eq_true]
                right
                exact List.any_eq_true.2 ⟨_, List.mem_of_getElem? HX.out.2, by rw [hbig]; simp only [Bool.or_eq_true, decide_eq_true_eq]; omega⟩)
              clear hbig
              go_upto_region 7 with fail
              go_wp2_with fail
              go_ret
              exact ⟨by simp [he.out], by rw [← hW]; exact HX.out.1⟩
            · have d2 : decide ((40 : Int) < (ot.length : Int)) = false := decide_eq_false (by omega)
              by_cases t3 : 60 < kl
              · have d3 : decide ((60 : Int) < (kl : Int)) = true := decide_eq_true (by omega)
                have he : Hid (heavyL l = true) := Lib.hid (by
                  unfold heavyL
                  rw [Bool.or_eq_true]
                  right
                  exact List.any_eq_true.2 ⟨_, List.mem_of_getElem? HX.out.2, by rw [hbig]; simp only [Bool.or_eq_true, decide_eq_true_eq]; omega⟩)
                clear hbig
                go_upto_region 7 with fail
                go_wp2_with fail
                go_ret
                exact ⟨by simp [he.out], by rw [← hW]; exact HX.out.1⟩
              · have d3 : decide ((60 : Int) < (kl : Int)) = false := decide_eq_false (by omega)
                have HN : Hid (∀ o ∈ l.take (k + 1), bigO o = false) := Lib.hid (fun x hx => by
                  rw [List.take_add_one, HX.out.2, List.mem_append] at hx
                  rcases hx with h1 | h1
                  · exact HR.out.2 x h1
                  · simp at h1; subst h1; rw [hbig]; simp only [Bool.or_eq_false_iff, decide_eq_false_iff_not]; omega)
                clear hbig
                go_upto_region 7 with fail
                go_wp2_with fail
                go_roundw
                case measure => simp [intOf]; omega
                case rel => exact ⟨k + 1, by omega, by go_num, Lib.hid ⟨by rw [← hW]; exact HX.out.1, HN.out⟩⟩
      · obtain rfl : k = n := by omega
        have he : Hid (heavyL l = false) := Lib.hid (by
          unfold heavyL
          rw [hdn.out, Bool.false_or]
          apply List.any_eq_false.2
          intro x hx
          have := HR.out.2 x (by rw [Hn.out, List.take_length]; exact hx)
          simp [this])
        have hkk : ¬ ((k : Int) < (k : Int)) := by omega
        go_wp2_with fail
        go_ret
        exact ⟨by simp [he.out], HR.out.1⟩

end Go.Proofs.Ytiogckgchlnldaa

/- Layer 8: walk of FsLasts. -/
set_option linter.unusedSimpArgs false
set_option linter.unusedVariables false
namespace Go.Proofs.Ytiogckgchlnldaa
open Go.RowKit
set_option maxRecDepth 100000

def nX : Nm := [120]
theorem one_new : One nX [] 0 (createD fd0 nX).2 := ⟨rfl, rfl, fun p hp => by have : p ∈ ([] : List (Nm × List UInt8)) := hp; simp at this, rfl, rfl, rfl, Nat.le_refl _⟩

set_option maxHeartbeats 4000000 in
theorem fsLasts_known (V : Option Addr) (cv : Nat) (l : List Bx) (sy : Nat) (KA : Option Addr) (ka : Nat) (kp : List Bool) (ta : Int) (KB : Option Addr) (kb : Nat) (kq : List Bool) (tb : Int) (w : World) (hk : 20 < l.length ∨ 60 < kp.length ∨ 60 < kq.length) :
    Calls Try.prog 6 #[.slice V l.length cv, .int .u8 (sy : Nat), .agg #[.slice KA kp.length ka, .int .i64 ta], .agg #[.slice KB kq.length kb, .int .i64 tb]] w fun e w' => e = .returned (.bool true) ∧ Below w.heap.size w w' := by
  have HK := Lib.hid (fun w => fknown8_any w)
  obtain ⟨n, hn⟩ : ∃ n, n = l.length := ⟨_, rfl⟩
  obtain ⟨m, hm⟩ : ∃ n, n = kp.length := ⟨_, rfl⟩
  obtain ⟨m', hm'⟩ : ∃ n, n = kq.length := ⟨_, rfl⟩
  rw [← hn, ← hm, ← hm'] at hk ⊢
  clear hn hm hm'
  obtain ⟨W1, hW1⟩ : ∃ W, W = w.alloc (.cells #[.slice KA m ka, .int .i64 ta] 25) := ⟨_, rfl⟩
  obtain ⟨W, hW⟩ : ∃ W, W = W1.alloc (.cells #[.slice KB m' kb, .int .i64 tb] 25) := ⟨_, rfl⟩
  have hb : Below w.heap.size w W := by rw [hW, hW1]; exact (below_alloc _ _).alloc (by simp) _
  have hz : W1.heap.size = w.heap.size + 1 := by rw [hW1]; simp
  have hB1 : Blk W w.heap.size 25 #[.slice KA m ka, .int .i64 ta] := by
    have h1 : Blk W1 w.heap.size 25 #[.slice KA m ka, .int .i64 ta] := by rw [hW1]; exact Blk.new _ _ _
    rw [hW]
    exact h1.below (below_alloc _ _) h1.lt
  have hB2 : Blk W W1.heap.size 25 #[.slice KB m' kb, .int .i64 tb] := by rw [hW]; exact Blk.new _ _ _
  rw [hz] at hB2
  have C1 := fbsays hB1
  have C2 := fbsays hB2
  simp only [cellsSay, Nat.reduceAdd, and_true] at C1 C2
  have HW := Lib.hid hb
  clear hb hz hB1 hB2
  by_cases h20 : 20 < n
  · have d1 : decide ((20 : Int) < (n : Int)) = true := decide_eq_true (by omega)
    clear hk h20
    go_enter Try.func6, Try.ntmps6
    go_upto_region 1 with fail
    rw [← hW1, ← hW]
    clear hW1 hW
    go_wp2_with fail
    refine (HK.out W).mono ?_
    rintro e w1 ⟨rfl, h1⟩
    have H1 := Lib.hid h1
    clear h1 HK C1 C2
    go_wp2_with fail
    go_ret
    exact ⟨rfl, on1 HW.out H1.out⟩
  · have d1 : decide ((20 : Int) < (n : Int)) = false := decide_eq_false (by omega)
    by_cases h60 : 60 < m
    · have d2 : decide ((60 : Int) < (m : Int)) = true := decide_eq_true (by omega)
      clear hk h20 h60
      go_enter Try.func6, Try.ntmps6
      go_upto_region 1 with fail
      rw [← hW1, ← hW]
      clear hW1 hW
      go_wp2_with fail
      refine (HK.out W).mono ?_
      rintro e w1 ⟨rfl, h1⟩
      have H1 := Lib.hid h1
      clear h1 HK C1 C2
      go_wp2_with fail
      go_ret
      exact ⟨rfl, on1 HW.out H1.out⟩
    · have d2 : decide ((60 : Int) < (m : Int)) = false := decide_eq_false (by omega)
      have d3 : decide ((60 : Int) < (m' : Int)) = true := decide_eq_true (by omega)
      clear hk h20 h60
      go_enter Try.func6, Try.ntmps6
      go_upto_region 1 with fail
      rw [← hW1, ← hW]
      clear hW1 hW
      go_wp2_with fail
      refine (HK.out W).mono ?_
      rintro e w1 ⟨rfl, h1⟩
      have H1 := Lib.hid h1
      clear h1 HK C1 C2
      go_wp2_with fail
      go_ret
      exact ⟨rfl, on1 HW.out H1.out⟩

set_option maxHeartbeats 16000000 in
theorem fsLasts_main (V : Option Addr) (cv : Nat) (l : List Bx) (sy : Nat) (KA : Option Addr) (ka : Nat) (kp : List Bool) (ta : Int) (KB : Option Addr) (kb : Nat) (kq : List Bool) (tb : Int) (w : World) (hV : Rw w encBx 1 V l) (hx : ∀ x ∈ l, Bs w x.A x.b ∧ x.b.length ≤ maxLen) (hsy : sy < 256) (hA : Bo w KA kp) (hBo : Bo w KB kq) (h20 : ¬ 20 < l.length) (h60 : ¬ 60 < kp.length) (h61 : ¬ 60 < kq.length) :
    Calls Try.prog 6 #[.slice V l.length cv, .int .u8 (sy : Nat), .agg #[.slice KA kp.length ka, .int .i64 ta], .agg #[.slice KB kq.length kb, .int .i64 tb]] w fun e w' => e = .returned (.bool true) ∧ Below w.heap.size w w' := by
  have HK := Lib.hid (fun w => fknown8_any w)
  obtain ⟨n, hn⟩ : ∃ n, n = l.length := ⟨_, rfl⟩
  obtain ⟨m, hm⟩ : ∃ n, n = kp.length := ⟨_, rfl⟩
  obtain ⟨m', hm'⟩ : ∃ n, n = kq.length := ⟨_, rfl⟩
  rw [← hn] at h20 ⊢
  rw [← hm] at h60 ⊢
  rw [← hm'] at h61 ⊢
  obtain ⟨W1, hW1⟩ : ∃ W, W = w.alloc (.cells #[.slice KA m ka, .int .i64 ta] 25) := ⟨_, rfl⟩
  obtain ⟨W, hW⟩ : ∃ W, W = W1.alloc (.cells #[.slice KB m' kb, .int .i64 tb] 25) := ⟨_, rfl⟩
  have hb : Below w.heap.size w W := by rw [hW, hW1]; exact (below_alloc _ _).alloc (by simp) _
  have hz : W1.heap.size = w.heap.size + 1 := by rw [hW1]; simp
  have hB1 : Blk W w.heap.size 25 #[.slice KA m ka, .int .i64 ta] := by
    have h1 : Blk W1 w.heap.size 25 #[.slice KA m ka, .int .i64 ta] := by rw [hW1]; exact Blk.new _ _ _
    rw [hW]
    exact h1.below (below_alloc _ _) h1.lt
  have hB2 : Blk W W1.heap.size 25 #[.slice KB m' kb, .int .i64 tb] := by rw [hW]; exact Blk.new _ _ _
  rw [hz] at hB2
  have C1 := fbsays hB1
  have C2 := fbsays hB2
  simp only [cellsSay, Nat.reduceAdd, and_true] at C1 C2
  have d1 : decide ((20 : Int) < (n : Int)) = false := decide_eq_false (by omega)
  have d2 : decide ((60 : Int) < (m : Int)) = false := decide_eq_false (by omega)
  have d3 : decide ((60 : Int) < (m' : Int)) = false := decide_eq_false (by omega)
  obtain ⟨s2, hs2⟩ : ∃ s : Nat, s = sy % 20 := ⟨_, rfl⟩
  have f0 : (sy : Int) % 20 = (s2 : Int) := by rw [hs2]; omega
  have hs20 : s2 < 20 := by omega
  have hV0 : Rw W encBx 1 V l := hV.below hb (Nat.le_refl _)
  have hx0 : ∀ x ∈ l, Bs W x.A x.b := fun x hxm => (hx x hxm).1.below hb
  have hA0 : Bo W KA kp := fun i x hi => by
    obtain ⟨p, o, hAe, hc⟩ := hA i x hi
    exact ⟨p, o, hAe, (hb.cell (cell_lt hc)).trans hc⟩
  have hB0 : Bo W KB kq := fun i x hi => by
    obtain ⟨p, o, hAe, hc⟩ := hBo i x hi
    exact ⟨p, o, hAe, (hb.cell (cell_lt hc)).trans hc⟩
  have HI := Lib.hid (And.intro hV0 (And.intro hx0 (And.intro hA0 (And.intro hB0 (And.intro hn (And.intro hm (And.intro hm' (And.intro hb (And.intro hB1 hB2)))))))))
  have Hn20 := Lib.hid h20
  have Hm60 := Lib.hid (And.intro h60 h61)
  clear hV0 hx0 hA0 hB0 hn hm hm' hb hz hV hx hA hBo h20 h60 h61 hs2 hB1 hB2
  go_enter Try.func6, Try.ntmps6
  go_upto_region 1 with fail
  rw [← hW1, ← hW]
  clear hW1 hW
  go_wp2_with fail
  refine (HK.out W).mono ?_
  rintro e w1 ⟨rfl, h1⟩
  have H1 := Lib.hid h1
  have HC := Lib.hid (new_any (Sep.nil (on1 (Below.refl W.heap.size W) h1) h1.size) 10000 (by omega))
  clear h1 HK C1 C2
  go_wp2_with fail
  refine HC.out.mono ?_
  rintro e w2 ⟨q, rfl, h2⟩
  have HC2 := Lib.hid (create_any nX (by decide) h2 (by decide))
  rw [show (createD fd0 nX).1 = 0 from by kernel_rfl] at HC2
  clear h2 HC H1
  go_wp2_with fail
  refine HC2.out.mono ?_
  rintro e w3 ⟨rfl, h3⟩
  have H3 := Lib.hid (FsI.cons (t := thO (.slice none 0 0) []) h3 (Below.refl _ _) (OwnB.nil _ _) (fun k e => by
    have e : (Value.slice none 0 0).ownBlock = some k := e
    simp [Value.ownBlock] at e))
  obtain ⟨d0, hd0⟩ : ∃ d, d = (createD fd0 nX).2 := ⟨_, rfl⟩
  have Hd0 := Lib.hid (show One nX [] 0 d0 ∧ d0.P = [] from by rw [hd0]; exact ⟨one_new, rfl⟩)
  rw [← hd0] at H3
  clear h3 HC2 hd0
  go_wp2_with fail
  go_loopw [10, 11, 12] (fun s10 s11 s12 wr => ∃ (k : Nat) (VA : Option Addr) (c ln nn : Nat), k ≤ n ∧ s10 = .slice VA ln c ∧ s11 = .int .i64 nn ∧ s12 = .int .i64 k ∧ Hid (∃ all d, ln = all.length ∧ FsI W.heap.size W wr q 10000 [thO (.slice VA ln c) all] d ∧ One nX all nn d ∧ d.P.length ≤ k ∧ all.length ≤ 300 * k)) (fun _ _ s _ => n - (intOf s).toNat)
  case atStart => exact ⟨0, none, 0, 0, 0, Nat.zero_le _, rfl, rfl, rfl, Lib.hid ⟨[], d0, rfl, H3.out, Hd0.out.1, by rw [Hd0.out.2]; exact Nat.le_refl _, Nat.zero_le _⟩⟩
  case round =>
    obtain ⟨k, VA, c, ln, nn, hkn, rfl, rfl, rfl, HR⟩ := hrel
    clear H3 Hd0
    by_cases hlt : k < n
    · obtain ⟨x, hx⟩ : ∃ x, l[k]? = some x := ⟨_, List.getElem?_eq_getElem (by rw [← HI.out.2.2.2.2.1]; exact hlt)⟩
      obtain ⟨all, d, r1, r2, r3, r4, r5⟩ := HR.out
      obtain ⟨p, o, rfl, hc⟩ := HI.out.1 k x hx
      have hbx := HI.out.2.1 x (List.mem_of_getElem? hx)
      have c0 := r2.old (Nat.le_refl _) (hc 0 _ rfl)
      simp only [Nat.add_zero, Nat.mul_one] at c0
      obtain ⟨lx, hlx⟩ : ∃ m, m = x.b.length := ⟨_, rfl⟩
      rw [← hlx] at c0
      have hkl : (k : Int) < (n : Int) := by omega
      have hk0 : (0 : Int) ≤ (k : Int) := by omega
      by_cases h3 : 300 < lx
      · have d3 : decide ((300 : Int) < (lx : Int)) = true := decide_eq_true (by omega)
        have HB := Lib.hid r2.b
        clear r1 r2 r3 r4 r5 HR hc hbx hx hlx h3
        go_wp2_with fail
        go_ret
        exact ⟨rfl, HI.out.2.2.2.2.2.2.2.1.trans (HB.out.mono (HI.out.2.2.2.2.2.2.2.1.size))⟩
      · have d3 : decide ((300 : Int) < (lx : Int)) = false := decide_eq_false (by omega)
        have hn20 := Hn20.out
        obtain ⟨a1, a2, a3⟩ := r3.append 10000 x.b (by omega)
        have HC := Lib.hid (append_any nX (by decide) x.A x.c x.b r2 (by omega) (by omega) (fun W' d' hs => hs.bs (Nat.le_refl _) hbx) (by rw [r3.lf]; omega) (by rw [r3.used]; omega) (by omega))
        have e1 : (appendD (10000 : Nat) d nX x.b).1 = 0 := a1
        rw [← hlx, e1] at HC
        obtain ⟨d1, hd1⟩ : ∃ d1, d1 = (appendD (10000 : Nat) d nX x.b).2 := ⟨_, rfl⟩
        rw [← hd1] at HC
        have a2 : One nX (all ++ x.b) nn d1 := by rw [hd1]; exact a2
        have a3 : d1.P.length ≤ d.P.length + 1 := by rw [hd1]; exact a3
        have HX := Lib.hid (And.intro r1 (And.intro a2 (And.intro a3 (And.intro r4 (And.intro r5 (And.intro hbx (And.intro hlx (hc 0 _ rfl))))))))
        have hl3 : lx ≤ 300 := by omega
        clear r1 r2 r3 r4 r5 a1 a2 a3 e1 hd1 HR hc hbx hx hlx h3
        go_wp2_with fail
        refine HC.out.mono ?_
        rintro e w6 ⟨rfl, h6⟩
        obtain ⟨r1, a2, a3, r4, r5, hbx, hlx, hc0⟩ := HX.out
        have c0 := h6.old (Nat.le_refl _) hc0
        simp only [Nat.add_zero, Nat.mul_one] at c0
        rw [← hlx] at c0
        have ho : OwnB w6 0 (.slice VA ln c) all := h6.get (t := thO (.slice VA ln c) all) 0 rfl
        have HO := Lib.hid ho
        have HBx := Lib.hid (h6.bs (Nat.le_refl _) hbx)
        have H6 := Lib.hid h6
        have hle : all.length + x.b.length ≤ 140737488355328 := by omega
        clear r1 a2 a3 r4 r5 hbx hc0 ho h6 HC
        go_upto_region 16 with (at_builtin; go_must (refine appAllL _ rfl (.tmp 61) (.tmp 65) rfl 0 (.slice VA ln c) all rfl HO.out x.A x.c x.b (by rw [← hlx]; rfl) HBx.out hle (Nat.zero_le _) ?_); intro A7 c7 w7 hown7 hg7 hl7)
        obtain ⟨t7, p7, n7⟩ := thO_grown (l := all) hown7 hg7 hl7
        have H7 := Lib.hid (show FsI W.heap.size W w7 q 10000 [thO (.slice A7 (all.length + x.b.length) c7) (all ++ x.b)] d1 from H6.out.turn 0 rfl t7 p7 n7)
        obtain ⟨ln7, hln7⟩ : ∃ m, m = all.length + x.b.length := ⟨_, rfl⟩
        rw [← hln7] at H7 ⊢
        have HX2 := Lib.hid (show ln7 = (all ++ x.b).length ∧ One nX (all ++ x.b) nn d1 ∧ d1.P.length ≤ k + 1 ∧ (all ++ x.b).length ≤ 300 * (k + 1) from by
          obtain ⟨r1, a2, a3, r4, r5, hbx, hlx, hc0⟩ := HX.out
          refine ⟨by rw [hln7, List.length_append], a2, by omega, by rw [List.length_append]; omega⟩)
        obtain ⟨all7, hall7⟩ : ∃ m, m = all ++ x.b := ⟨_, rfl⟩
        rw [← hall7] at HX2 H7
        clear t7 p7 n7 hown7 hg7 hl7 hln7 hall7 HX H6 HO HBx c0 hle hlx
        by_cases hks : k < s2
        · have d4 : decide ((k : Int) < (s2 : Int)) = true := decide_eq_true (by omega)
          have hks' : (k : Int) < (s2 : Int) := by omega
          obtain ⟨b1, b2, b3⟩ := HX2.out.2.1.sync
          have HC := Lib.hid (sync_any nX (by decide) H7.out (by rw [HX2.out.2.1.lf]; omega))
          rw [b1] at HC
          obtain ⟨d8, hd8⟩ : ∃ d, d = (syncD d1 nX).2 := ⟨_, rfl⟩
          rw [← hd8] at HC b2 b3
          have HX3 := Lib.hid (And.intro b2 b3)
          clear b1 b2 b3 hd8 hks
          go_wp2_with fail
          refine HC.out.mono ?_
          rintro e w8 ⟨rfl, h8⟩
          have H8 := Lib.hid h8
          clear h8 HC
          go_wp2_with fail
          go_roundw
          case measure => simp [intOf]; omega
          case rel =>
            refine ⟨k + 1, A7, c7, ln7, ln7, by omega, rfl, rfl, by go_num, Lib.hid ⟨all7, d8, HX2.out.1, H8.out, ?_, ?_, HX2.out.2.2.2⟩⟩
            · rw [HX2.out.1]; exact HX3.out.1
            · rw [HX3.out.2]; exact Nat.zero_le _
        · have d4 : decide ((k : Int) < (s2 : Int)) = false := decide_eq_false (by omega)
          have hks' : ¬ (k : Int) < (s2 : Int) := by omega
          clear hks
          go_wp2_with fail
          go_roundw
          case measure => simp [intOf]; omega
          case rel => exact ⟨k + 1, A7, c7, ln7, nn, by omega, rfl, rfl, by go_num, Lib.hid ⟨all7, d1, HX2.out.1, H7.out, HX2.out.2.1, HX2.out.2.2.1, HX2.out.2.2.2⟩⟩
    · obtain rfl : k = n := by omega
      have hkk : ¬ ((k : Int) < (k : Int)) := by omega
      obtain ⟨all, d, r1, r2, r3, r4, r5⟩ := HR.out
      obtain ⟨g, g1, g2, g3⟩ := r3.crash (kpt kp) ta
      have hm60 := Hm60.out
      have hn20 := Hn20.out
      have HC := Lib.hid (crash_any kp KA ka m HI.out.2.2.2.2.2.1 ta r2 (fun W' hs => sep_keepK hs (Nat.le_refl _) HI.out.2.2.1) (by omega))
      have c1 : wr.cell? ⟨w.heap.size, 0, none⟩ = some (.slice KA m ka) := r2.old (Nat.le_refl _) (HI.out.2.2.2.2.2.2.2.2.1.cell 0)
      have c2 : wr.cell? ⟨w.heap.size, 1, none⟩ = some (.int .i64 ta) := r2.old (Nat.le_refl _) (HI.out.2.2.2.2.2.2.2.2.1.cell 1)
      obtain ⟨d5, hd5⟩ : ∃ d5, d5 = crashD d (kpt kp) ta := ⟨_, rfl⟩
      rw [← hd5] at HC g2 g3
      have HX := Lib.hid (And.intro r1 (And.intro g1 (And.intro g2 (And.intro r3.n (And.intro r5 g3)))))
      clear r1 r2 r3 r4 r5 g1 g2 g3 hd5 HR hm60
      go_wp2_with fail
      refine HC.out.mono ?_
      rintro e w6 ⟨rfl, h6⟩
      have HC2 := Lib.hid (read_some nX (by decide) h6 g HX.out.2.2.1.rd)
      have H6 := Lib.hid h6
      clear h6 HC c1 c2
      go_wp2_with fail
      refine HC2.out.mono ?_
      rintro e w7 ⟨A7, c7, rfl, h7⟩
      obtain ⟨o7, b7⟩ := h7.out
      have H7 := Lib.hid (FsI.cons (t := thO (.slice A7 g.length c7) g) H6.out b7 (o7.mono (Nat.zero_le _)) (fun k hk => (World.ownsRow.lt o7 k hk).1))
      obtain ⟨gl, hgl⟩ : ∃ m, m = g.length := ⟨_, rfl⟩
      rw [← hgl] at H7 ⊢
      have oa : OwnB w7 0 (.slice VA ln c) all := H7.out.get (t := thO (.slice VA ln c) all) 1 rfl
      have og : OwnB w7 0 (.slice A7 gl c7) g := H7.out.get (t := thO (.slice A7 gl c7) g) 0 rfl
      obtain ⟨x1, ⟨x2, x3, x4, x5⟩, x6, x7, x8, x9⟩ := HX.out
      have d4 : decide (gl < nn) = false := decide_eq_false (by omega)
      have d5' : decide (ln < gl) = false := decide_eq_false (by omega)
      obtain ⟨y1, y2, y3⟩ := own_shape og
      obtain ⟨z1, z2, z3⟩ := own_shape oa
      have sA := fun nq => run_front2 A7 gl c7 nn (by omega) y2 y3 (w7.drewN nq)
      have sB := fun nq => run_front2 VA ln c nn (by omega) z2 z3 (w7.drewN nq)
      have tA := fun nq => str_front ((OwnB.bs og).below (below_drewN (Below.refl _ w7) nq)) nn c7 (by omega)
      have tB := fun nq => str_front ((OwnB.bs oa).below (below_drewN (Below.refl _ w7) nq)) nn c (by omega)
      have q1 : nn ≤ c7 := by omega
      have q2 : nn ≤ c := by omega
      have e2 : (g.take nn == all.take nn) = true := beq_iff_eq.2 x4
      have e2' : (g.take nn != all.take nn) = false := by unfold bne; rw [e2]; rfl
      have Hgl := Lib.hid (show gl = g.length ∧ nn ≤ gl ∧ gl ≤ ln ∧ gl ≤ 6000 ∧ ln = all.length from ⟨hgl, by omega, by omega, by omega, x1⟩)
      have hg6 : gl ≤ 6000 := by omega
      clear oa og x1 x2 x3 x4 x5 x6 x7 x8 x9 y1 y2 y3 z1 z2 z3 o7 b7 h7 HC2 H6 hgl
      go_wp2_with fail
      go_quiet (fail)
      clear sA sB tA tB e2 e2' d4 d5' q1 q2
      go_wp2_with fail
      go_loopw [15] (fun s wr => ∃ k : Nat, nn ≤ k ∧ k ≤ gl ∧ s = .int .i64 k ∧ Hid (Below w7.heap.size w7 wr)) (fun s _ => gl - (intOf s).toNat)
      case atStart => exact ⟨nn, Nat.le_refl _, Hgl.out.2.1, rfl, Lib.hid (below_drewN (Below.refl _ w7) _)⟩
      case round =>
        obtain ⟨k2, hk1, hk2, rfl, HR⟩ := hrel
        by_cases hlt2 : k2 < gl
        · have h8 := H7.out.go HR.out
          have oa : OwnB wr 0 (.slice VA ln c) all := h8.get (t := thO (.slice VA ln c) all) 1 rfl
          have og : OwnB wr 0 (.slice A7 gl c7) g := h8.get (t := thO (.slice A7 gl c7) g) 0 rfl
          obtain ⟨g1, g2, g3, g4, g5⟩ := Hgl.out
          obtain ⟨x, hx⟩ : ∃ x, g[k2]? = some x := ⟨_, List.getElem?_eq_getElem (by omega)⟩
          obtain ⟨y, hy⟩ : ∃ y, all[k2]? = some y := ⟨_, List.getElem?_eq_getElem (by omega)⟩
          obtain ⟨p, o, rfl, c3⟩ := (OwnB.bs og) k2 x hx
          obtain ⟨p', o', rfl, c4⟩ := (OwnB.bs oa) k2 y hy
          have hxy : x = 0 ∨ x = y := by
            rcases HX.out.2.1.2.2.2 k2 x hx with h9 | h9
            · exact .inl h9
            · rw [hy] at h9
              injection h9 with h9
              exact .inr h9.symm
          obtain ⟨xn, hxn⟩ : ∃ m, m = x.toNat := ⟨_, rfl⟩
          obtain ⟨yn, hyn⟩ : ∃ m, m = y.toNat := ⟨_, rfl⟩
          rw [show bv x = .int .u8 (xn : Int) by rw [hxn]] at c3
          rw [show bv y = .int .u8 (yn : Int) by rw [hyn]] at c4
          have hxy : xn = 0 ∨ xn = yn := by
            rcases hxy with h9 | h9
            · left; rw [hxn, h9]; rfl
            · right; rw [hxn, hyn, h9]
          have hkl2 : (k2 : Int) < (gl : Int) := by omega
          have hkl3 : (k2 : Int) < (ln : Int) := by omega
          have hk02 : (0 : Int) ≤ (k2 : Int) := by omega
          clear g1 g2 g3 g4 g5 hx hy hxn hyn oa og h8
          by_cases hq : xn = yn
          · have e1 : ((xn : Int) == (yn : Int)) = true := beq_iff_eq.2 (by omega)
            have e1' : ((xn : Int) != (yn : Int)) = false := by unfold bne; rw [e1]; rfl
            clear hxy hq
            go_wp2_with fail
            go_quiet (fail)
            go_wp2_with fail
            go_roundw
            case measure => simp [intOf]; omega
            case rel => exact ⟨k2 + 1, by omega, by omega, by go_num, Lib.hid (below_drewN HR.out nq)⟩
          · obtain rfl : xn = 0 := by omega
            have e1 : ((0 : Int) == (yn : Int)) = false := beq_eq_false_iff_ne.2 (by omega)
            have e1' : ((0 : Int) != (yn : Int)) = true := by unfold bne; rw [e1]; rfl
            rw [show ((0 : Nat) : Int) = 0 from rfl] at c3
            clear hxy hq
            go_wp2_with fail
            go_quiet (fail)
            go_wp2_with fail
            go_roundw
            case measure => simp [intOf]; omega
            case rel => exact ⟨k2 + 1, by omega, by omega, by go_num, Lib.hid (below_drewN HR.out nq)⟩
        · obtain rfl : k2 = gl := by omega
          have hkk2 : ¬ ((k2 : Int) < (k2 : Int)) := by omega
          have h8 := H7.out.go HR.out
          obtain ⟨r, r1, r2, r3⟩ := HX.out.2.2.1.crash (kpt kq) tb
          have hr := lies_all r1
          subst hr
          have hm60 := Hm60.out
          have HC := Lib.hid (crash_any kq KB kb m' HI.out.2.2.2.2.2.2.1 tb h8 (fun W' hs => sep_keepK hs (Nat.le_refl _) HI.out.2.2.2.1) (by omega))
          have c1 : wr.cell? ⟨w.heap.size + 1, 0, none⟩ = some (.slice KB m' kb) := h8.old (Nat.le_refl _) (HI.out.2.2.2.2.2.2.2.2.2.cell 0)
          have c2 : wr.cell? ⟨w.heap.size + 1, 1, none⟩ = some (.int .i64 tb) := h8.old (Nat.le_refl _) (HI.out.2.2.2.2.2.2.2.2.2.cell 1)
          obtain ⟨d6, hd6⟩ : ∃ d, d = crashD d5 (kpt kq) tb := ⟨_, rfl⟩
          rw [← hd6] at HC r2 r3
          have HX2 := Lib.hid (And.intro r2 r3)
          clear r1 r2 r3 hd6 h8 hm60 HR
          go_wp2_with fail
          refine HC.out.mono ?_
          rintro e w8 ⟨rfl, h8⟩
          have HC2 := Lib.hid (read_some nX (by decide) h8 r HX2.out.1.rd)
          rw [← Hgl.out.1] at HC2
          have H8 := Lib.hid h8
          clear h8 HC c1 c2
          go_wp2_with fail
          refine HC2.out.mono ?_
          rintro e w9 ⟨A9, c9, rfl, h9⟩
          obtain ⟨o9, b9⟩ := h9.out
          have f9 := H8.out.go b9
          have og : OwnB w9 0 (.slice A7 k2 c7) r := f9.get (t := thO (.slice A7 k2 c7) r) 0 rfl
          have tA := str_of (OwnB.bs og) c7
          have tB := str_of (OwnB.bs o9) c9
          rw [← Hgl.out.1] at tA tB
          have e2 : (r == r) = true := beq_self_eq_true r
          have HW := Lib.hid (waits_any f9)
          rw [HX2.out.2] at HW
          have HEND := Lib.hid f9.b
          clear o9 b9 f9 og h9 HC2 H8
          go_wp2_with fail
          refine HW.out.mono ?_
          rintro e w10 ⟨rfl, hw⟩
          rw [hw]
          clear hw HW tA tB
          go_wp2_with fail
          go_ret
          exact ⟨by simp, HI.out.2.2.2.2.2.2.2.1.trans (HEND.out.mono (HI.out.2.2.2.2.2.2.2.1.size))⟩

theorem fsLasts_walk (V : Option Addr) (cv : Nat) (l : List Bx) (sy : Nat) (KA : Option Addr) (ka : Nat) (kp : List Bool) (ta : Int) (KB : Option Addr) (kb : Nat) (kq : List Bool) (tb : Int) (w : World) (hV : Rw w encBx 1 V l) (hx : ∀ x ∈ l, Bs w x.A x.b ∧ x.b.length ≤ maxLen) (hsy : sy < 256) (hA : Bo w KA kp) (hBo : Bo w KB kq) :
    Calls Try.prog 6 #[.slice V l.length cv, .int .u8 (sy : Nat), .agg #[.slice KA kp.length ka, .int .i64 ta], .agg #[.slice KB kq.length kb, .int .i64 tb]] w fun e w' => e = .returned (.bool true) ∧ Below w.heap.size w w' := by
  by_cases hk : 20 < l.length ∨ 60 < kp.length ∨ 60 < kq.length
  · exact fsLasts_known V cv l sy KA ka kp ta KB kb kq tb w hk
  · exact fsLasts_main V cv l sy KA ka kp ta KB kb kq tb w hV hx hsy hA hBo (fun h => hk (.inl h)) (fun h => hk (.inr (.inl h))) (fun h => hk (.inr (.inr h)))

end Go.Proofs.Ytiogckgchlnldaa
