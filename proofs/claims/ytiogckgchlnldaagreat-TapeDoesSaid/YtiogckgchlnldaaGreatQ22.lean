/- Joined: Frame10. -/
import Derived.Test.YtiogckgchlnldaaGreatQ19
import Derived.Test.YtiogckgchlnldaaGreatQ11
set_option linter.unusedSimpArgs false
set_option linter.unusedVariables false
/- Arguments of layer 10's statements: calls. -/
set_option linter.unusedSimpArgs false
set_option linter.unusedVariables false
namespace Go.Proofs.YtiogckgchlnldaaGreat
open Go.Joins Go.ChangeShapes Go.WideShapes Go.RowKit Go.Deep
set_option maxRecDepth 100000

/-- a call: kind, bytes, notes, number, what a crash keeps -/
structure OpT where
  kd : Nat
  A : Option Addr
  c : Nat
  b : List UInt8
  LA : Option Addr
  Lc : Nat
  L : List Bx
  n : Nat
  KA : Option Addr
  kc : Nat
  kp : List Bool
  to_ : Int
def encOpT (o : OpT) : List Value := [.int .u8 (o.kd : Nat), .slice o.A o.b.length o.c, .slice o.LA o.L.length o.Lc, .int .u8 (o.n : Nat), .slice o.KA o.kp.length o.kc, .int .i64 o.to_]
/-- bytes with their cap -/
def Bc (w : World) (A : Option Addr) (c : Nat) (b : List UInt8) : Prop := Bs w A b ∧ b.length ≤ c ∧ b.length ≤ maxLen ∧ Fm A c
structure OpT.ok (w : World) (o : OpT) : Prop where
  kd : o.kd < 256
  b : Bc w o.A o.c o.b
  row : Rw w encBx 1 o.LA o.L
  el : ∀ x ∈ o.L, Bc w x.A x.c x.b
  len : o.L.length ≤ maxLen
  lc : o.L.length ≤ o.Lc ∧ (o.LA = none → o.Lc = 0)
  n : o.n < 256
  kp : Bo w o.KA o.kp
  kl : o.kp.length ≤ maxLen
  to_ : i64P o.to_
section
variable {H : Type} {ench : TypeId × Value → H} {W : World}
theorem Tryz.tCellsM : Tryz.prog.cellsOf 42 = 1 := by kernel_rfl
theorem Tryz.tCellsO : Tryz.prog.cellsOf 47 = 6 := by kernel_rfl
theorem ttrod_bytes {fuel : Nat} {c : Value} {y : DataW H × List MemPlace} (h : DataW.trod ench Tryz.prog W 0 (fun _ => true) true fuel 22 [c] = some y) : ∃ (A : Option Addr) (k : Nat) (l : List UInt8), c = .slice A l.length k ∧ Bc W A k l := by
  obtain ⟨A, k, l, rfl, hl, hb⟩ := open_bytes (b0 := 0) h
  refine ⟨A, k, l, rfl, hb, ?_⟩
  rcases open_ints Tryz.underlying22 Tryz.underlying5 (by kernel_rfl) h with ⟨hcs, _⟩ | ⟨a', len', cap', zs, hcs, _, hlc, hm, hz, _, hcell, _⟩
  · injection hcs with hcs _
    injection hcs with e1 e2 e3
    subst e1 e3
    exact ⟨by omega, hl, .inl rfl⟩
  · injection hcs with hcs _
    injection hcs with e1 e2 e3
    subst e1 e2 e3
    refine ⟨hlc, hl, ?_⟩
    rcases Nat.eq_zero_or_pos k with h0 | h0
    · exact .inl h0
    · obtain ⟨p, o, spot⟩ := a'
      have hc0 := hcell 0 (by rw [hz, if_pos rfl]; exact h0)
      have hs : spot = none := by simpa [Addr.add] using World.cell?_spot hc0
      subst hs
      exact .inr ⟨p, o, rfl⟩
theorem ttrod_list {fuel : Nat} {c : Value} {y : DataW H × List MemPlace} (h : DataW.trod ench Tryz.prog W 0 (fun _ => true) true fuel 42 [c] = some y) : ∃ (V : Option Addr) (k : Nat) (l : List Bx), c = .slice V l.length k ∧ Rw W encBx 1 V l ∧ l.length ≤ maxLen ∧ (l.length ≤ k ∧ (V = none → k = 0)) ∧ ∀ x ∈ l, Bc W x.A x.c x.b := by
  obtain ⟨V, k, l, h1, h2, h2c, h3, h4⟩ := open_rowsC (enc := encBx) (sz := 1) (ok := fun x => Bc W x.A x.c x.b) Tryz.underlying42 Tryz.qCellsL (by decide) (fun _ => rfl) (fun fuel cs x hl ht => by
    match cs, hl with
    | [c0], _ =>
      obtain ⟨A, k, l, rfl, hb⟩ := ttrod_bytes ht
      exact ⟨⟨A, k, l⟩, rfl, hb⟩) h
  refine ⟨V, k, l, h1, h2, h3, ⟨h2c, fun e => ?_⟩, h4⟩
  subst h1
  rcases open_slice Tryz.underlying42 h with ⟨hcs, _⟩ | ⟨a, len0, cap0, m, n, D, Pl, hcs, _⟩
  · injection hcs with hcs _
    injection hcs
  · injection hcs with hcs _
    injection hcs with e1 _ _
    rw [e] at e1
    cases e1
/-- a slice of bytes -/
theorem open_bytesT {b0 : Nat} {v : Value} {d : DataW H} {p : List MemPlace} (hv : Value.okWide Tryz.prog W .any b0 22 v) (h : DataW.Trod ench Tryz.prog W 0 (fun _ => true) true 22 v d p) :
    ∃ (A : Option Addr) (c : Nat) (l : List UInt8), v = .slice A l.length c ∧ Bc W A c l := by
  obtain ⟨a, len, cap, rfl⟩ := okWide_slice Tryz.underlying22 hv
  obtain ⟨n, h⟩ := h
  exact ttrod_bytes h
/-- a slice of lists of bytes, each with its cap -/
theorem open_listT {b0 : Nat} {v : Value} {d : DataW H} {p : List MemPlace} (hv : Value.okWide Tryz.prog W .any b0 42 v) (h : DataW.Trod ench Tryz.prog W 0 (fun _ => true) true 42 v d p) :
    ∃ (V : Option Addr) (c : Nat) (l : List Bx), v = .slice V l.length c ∧ Rw W encBx 1 V l ∧ l.length ≤ c ∧ l.length ≤ maxLen ∧ ∀ x ∈ l, Bc W x.A x.c x.b :=
  open_rows (enc := encBx) (sz := 1) (ok := fun x => Bc W x.A x.c x.b) Tryz.underlying42 Tryz.qCellsL (by decide) (fun _ => rfl) (fun fuel cs x hl ht => by
    match cs, hl with
    | [c0], _ =>
      obtain ⟨A, k, l, rfl, hb⟩ := ttrod_bytes ht
      exact ⟨⟨A, k, l⟩, rfl, hb⟩) hv h
/-- a slice of calls -/
theorem open_opsT {b0 : Nat} {v : Value} {d : DataW H} {p : List MemPlace} (hv : Value.okWide Tryz.prog W .any b0 23 v) (h : DataW.Trod ench Tryz.prog W 0 (fun _ => true) true 23 v d p) :
    ∃ (V : Option Addr) (c : Nat) (l : List OpT), v = .slice V l.length c ∧ Rw W encOpT 6 V l ∧ l.length ≤ c ∧ l.length ≤ maxLen ∧ ∀ o ∈ l, o.ok W :=
  open_rows (enc := encOpT) (sz := 6) (ok := OpT.ok W) Tryz.underlying23 Tryz.tCellsO (by decide) (fun _ => rfl) (fun fuel cs x hl ht => by
    match cs, hl with
    | [c0, c1, c2, c3, c4, c5], _ =>
      obtain ⟨xs, m, _, _, _, hlen, hg⟩ := DataW.trod_struct Tryz.underlying47 ht
      obtain ⟨y0, h0⟩ := trodR hlen hg 0 rfl Tryz.qCellsU8
      obtain ⟨y1, h1⟩ := trodR hlen hg 1 rfl Tryz.qCellsL
      obtain ⟨y2, h2⟩ := trodR hlen hg 2 rfl Tryz.tCellsM
      obtain ⟨y3, h3⟩ := trodR hlen hg 3 rfl Tryz.qCellsU8
      obtain ⟨y4, h4⟩ := trodR hlen hg 4 rfl Tryz.qCellsLoss
      obtain ⟨kd, rfl, k0⟩ := qtrod_u8 h0
      obtain ⟨A, c, b, rfl, k1⟩ := ttrod_bytes h1
      obtain ⟨LA, Lc, L, rfl, k2, k3, k3c, k4⟩ := ttrod_list h2
      obtain ⟨n, rfl, k5⟩ := qtrod_u8 h3
      obtain ⟨KA, kc, kp, to_, rfl, rfl, k6, k7, k8⟩ := qtrod_loss h4
      exact ⟨⟨kd, A, c, b, LA, Lc, L, n, KA, kc, kp, to_⟩, rfl, k0, k1, k2, k4, k3, k3c, k5, k6, k7, k8⟩) hv h
end

end Go.Proofs.YtiogckgchlnldaaGreat
