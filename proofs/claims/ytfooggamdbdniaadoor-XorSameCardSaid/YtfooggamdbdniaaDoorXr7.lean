/- The document's written and Put of layer 3. -/
import Derived.Test.YtfooggamdbdniaaDoorXr6
import Derived.Test.YtfooggamdbdniaaDoorRef2
import Derived.Test.YtfooggamdbdniaaDoorRef3
import Derived.Test.YtfooggamdbdniaaDoorRef4
namespace Go.Proofs.YtfooggamdbdniaaDoor
open Go.RowKit

theorem written_any (h : Bool) (p l b v : Nat) (w : World) (hv : v < 18446744073709551616) (hp : p < 18446744073709551616) (hs : soundX ⟨h, p, l, b⟩ = true) :
    Calls Tryd.prog 24 #[.agg #[.bool h, .int .u64 p, .int .u8 l, .int .u8 b], .int .u64 v] w fun e w' => WrOut ⟨h, p, l, b⟩ v w.heap.size e w' ∧ Below w.heap.size w w' := by
  cases h
  · exact written_first p l b v w hv
  · by_cases hne : v ^^^ p = 0
    · obtain rfl := xor_zero_iff.1 hne
      exact written_same l b v w hv
    · exact written_other p l b v w hv hp hs hne

/-- what Put answers: bytes, their bits, what is known then, an error -/
def putX (l : List UInt8) (n : Int) (s : XV) (v : Nat) : List UInt8 × Nat × XV × Nat :=
  if soundB l n = false then ([], 0, xv0, 11) else if soundX s = false then ([], 0, xv0, 30)
  else (pack (bitl l n.toNat ++ (encX s v).1), (bitl l n.toNat ++ (encX s v).1).length, (encX s v).2, 0)
def PutOut (P : List UInt8 × Nat × XV × Nat) (kind : IntKind) (base : Nat) (e : Ending) (w : World) : Prop :=
  ∃ A' n' c', n' = P.1.length ∧ e = .returned (.tuple #[.agg #[.slice A' n' c', .int .i64 (P.2.1 : Nat)], .agg #[.bool P.2.2.1.has, .int .u64 (P.2.2.1.prev : Nat), .int .u8 (P.2.2.1.lead : Nat), .int .u8 (P.2.2.1.width : Nat)], .int kind (P.2.2.2 : Nat)]) ∧ OwnB w base (.slice A' n' c') P.1

/-- four boxes that a call laid: two that hold what came, two for its results -/
structure Four (w W : World) (b0 : Array Value) (b1 : Array Value) (b2 : Array Value) (b3 : Array Value) (t0 t1 : TypeId) : Prop where
  h0 : Blk W w.heap.size t0 b0
  h1 : Blk W (w.heap.size + 1) t1 b1
  h2 : Blk W (w.heap.size + 2) t0 b2
  h3 : Blk W (w.heap.size + 3) t1 b3
  t : Below w.heap.size w W
  z : w.heap.size + 4 ≤ W.heap.size
theorem four_new (w : World) (b0 b1 b2 b3 : Array Value) (t0 t1 : TypeId) : Four w ((((w.alloc (.cells b0 t0)).alloc (.cells b1 t1)).alloc (.cells b2 t0)).alloc (.cells b3 t1)) b0 b1 b2 b3 t0 t1 := by
  have s1 : (w.alloc (.cells b0 t0)).heap.size = w.heap.size + 1 := by simp
  have s2 : ((w.alloc (.cells b0 t0)).alloc (.cells b1 t1)).heap.size = w.heap.size + 2 := by simp
  have s3 : (((w.alloc (.cells b0 t0)).alloc (.cells b1 t1)).alloc (.cells b2 t0)).heap.size = w.heap.size + 3 := by simp
  refine ⟨(((Blk.new w t0 b0).alloc _).alloc _).alloc _, ?_, ?_, ?_, ?_, by simp⟩
  · have := ((Blk.new (w.alloc (.cells b0 t0)) t1 b1).alloc (.cells b2 t0)).alloc (.cells b3 t1)
    rwa [s1] at this
  · have := (Blk.new ((w.alloc (.cells b0 t0)).alloc (.cells b1 t1)) t0 b2).alloc (.cells b3 t1)
    rwa [s2] at this
  · have := Blk.new (((w.alloc (.cells b0 t0)).alloc (.cells b1 t1)).alloc (.cells b2 t0)) t1 b3
    rwa [s3] at this
  · exact (((below_alloc w _).alloc (by simp) _).alloc (by simp; omega) _).alloc (by simp; omega) _
theorem Four.on {w W W' : World} {b0 b1 b2 b3 : Array Value} {t0 t1 : TypeId} (h : Four w W b0 b1 b2 b3 t0 t1) (hb : Below (w.heap.size + 4) W W') : Four w W' b0 b1 b2 b3 t0 t1 :=
  ⟨h.h0.below hb (by omega), h.h1.below hb (by omega), h.h2.below hb (by omega), h.h3.below hb (by omega), h.t.trans (hb.mono (by omega)), Nat.le_trans h.z hb.size⟩
theorem Four.go {w W W' : World} {b0 b1 b2 b3 : Array Value} {t0 t1 : TypeId} (h : Four w W b0 b1 b2 b3 t0 t1) (hb : Below W.heap.size W W') : Four w W' b0 b1 b2 b3 t0 t1 := h.on (hb.mono h.z)

/-- the two results, stored -/
theorem Four.fin {w W : World} {b0 b1 : Array Value} {x0 x1 y0 y1 y2 y3 : Value} {t0 t1 : TypeId} (h : Four w W b0 b1 #[x0, x1] #[y0, y1, y2, y3] t0 t1) (a b c d e f : Value) :
    Four w ((((((W.setCell ⟨w.heap.size + 2, 0, none⟩ a).setCell ⟨w.heap.size + 2, 1, none⟩ b).setCell ⟨w.heap.size + 3, 0, none⟩ c).setCell ⟨w.heap.size + 3, 1, none⟩ d).setCell ⟨w.heap.size + 3, 2, none⟩ e).setCell ⟨w.heap.size + 3, 3, none⟩ f) b0 b1 #[a, b] #[c, d, e, f] t0 t1 := by
  have n2 : ∀ {g : Nat} {cs : Array Value} {t : TypeId} {V : World}, Blk V g t cs → g ≠ w.heap.size + 2 → g ≠ w.heap.size + 3 → ∀ (i j : Nat) (u u' : Value), Blk (V.setCell ⟨w.heap.size + 2, i, none⟩ u) g t cs ∧ Blk (V.setCell ⟨w.heap.size + 3, j, none⟩ u') g t cs :=
    fun hb h2 h3 i j u u' => ⟨hb.far _ _ h2, hb.far _ _ h3⟩
  refine ⟨?_, ?_, ?_, ?_, ?_, ?_⟩
  · exact (((((h.h0.far _ _ (by simp)).far _ _ (by simp)).far _ _ (by simp)).far _ _ (by simp)).far _ _ (by simp)).far _ _ (by simp)
  · exact (((((h.h1.far _ _ (by simp)).far _ _ (by simp)).far _ _ (by simp)).far _ _ (by simp)).far _ _ (by simp)).far _ _ (by simp)
  · exact ((((h.h2.set2 a b).far _ _ (by simp)).far _ _ (by simp)).far _ _ (by simp)).far _ _ (by simp)
  · exact (((h.h3.far _ _ (by simp)).far _ _ (by simp)).set4 c d e f)
  · exact below_set4 ((h.t.setCell (p := ⟨w.heap.size + 2, 0, none⟩) (by simp) a).setCell (p := ⟨w.heap.size + 2, 1, none⟩) (by simp) b) (by omega) c d e f
  · simp [World.setCell]; exact h.z
theorem OwnB.fin {w W : World} {base : Nat} {V : Value} {l : List UInt8} (h : OwnB W base V l) (hb : w.heap.size + 4 ≤ base) (a b c d e f : Value) :
    OwnB ((((((W.setCell ⟨w.heap.size + 2, 0, none⟩ a).setCell ⟨w.heap.size + 2, 1, none⟩ b).setCell ⟨w.heap.size + 3, 0, none⟩ c).setCell ⟨w.heap.size + 3, 1, none⟩ d).setCell ⟨w.heap.size + 3, 2, none⟩ e).setCell ⟨w.heap.size + 3, 3, none⟩ f) w.heap.size V l := by
  have h1 := h.far (h.ne (show w.heap.size + 2 < base by omega)) (p := ⟨w.heap.size + 2, 0, none⟩) a
  have h2 := h1.far (h1.ne (show w.heap.size + 2 < base by omega)) (p := ⟨w.heap.size + 2, 1, none⟩) b
  exact (h2.far4 (show w.heap.size + 3 < base by omega) c d e f).mono (by omega)

set_option maxRecDepth 100000 in
set_option maxHeartbeats 2000000 in
theorem rxput_any (A : Option Addr) (c : Nat) (l : List UInt8) (n : Int) (h : Bool) (p ld b v : Nat) (w : World) (hb : Bs w A l) (hn : -9223372036854775808 ≤ n ∧ n ≤ 9223372036854775807) (hl : l.length ≤ 100000)
    (hv : v < 18446744073709551616) (hp : p < 18446744073709551616) (hld : ld < 256) (hbb : b < 256) :
    Calls Tryd.prog 13 #[.agg #[.slice A l.length c, .int .i64 n], .agg #[.bool h, .int .u64 p, .int .u8 ld, .int .u8 b], .int .u64 v] w fun e w' => PutOut (putX l n ⟨h, p, ld, b⟩ v) .i64 w.heap.size e w' ∧ Below w.heap.size w w' := by
  have F := four_new w #[.slice A l.length c, .int .i64 n] #[.bool h, .int .u64 p, .int .u8 ld, .int .u8 b] #[.slice none 0 0, .int .i64 0] #[.bool false, .int .u64 0, .int .u8 0, .int .u8 0] 29 24
  have hl' : l.length ≤ 1099511627776 := by omega
  go_enter Tryd.func13, Tryd.ntmps13
  go_wp2_with fail
  have hb0 := hb.below F.t
  have HF := Lib.hid F
  clear F
  generalize (((w.alloc (.cells #[.slice A l.length c, .int .i64 n] 29)).alloc (.cells #[.bool h, .int .u64 p, .int .u8 ld, .int .u8 b] 24)).alloc (.cells #[.slice none 0 0, .int .i64 0] 29)).alloc (.cells #[.bool false, .int .u64 0, .int .u8 0, .int .u8 0] 24) = W at *
  refine (refSound_any A c l n W hb0 hn hl').mono ?_
  rintro e w1 ⟨rfl, b1⟩
  have F1 := HF.out.go b1
  have HF1 := Lib.hid F1
  obtain ⟨⟨q0, q1, q2, q3⟩, g0, g1, g2, g3⟩ := F1.h3.quad
  obtain ⟨⟨y0, y1⟩, x0, x1⟩ := F1.h2.duo
  obtain ⟨⟨u0, u1, u2, u3⟩, -⟩ := F1.h1.quad
  obtain ⟨⟨v0, v1⟩, -⟩ := F1.h0.duo
  have a1 := hb0.below b1
  clear F1
  cases hs : soundB l n
  · have Hs := Lib.hid hs
    clear hs
    go_wp2_with fail
    have FF := HF1.out.fin (.slice none 0 0) (.int .i64 0) (.bool false) (.int .u64 0) (.int .u8 0) (.int .u8 0)
    obtain ⟨⟨s0, s1, s2, s3⟩, -⟩ := FF.h3.quad
    obtain ⟨⟨r0, r1⟩, -⟩ := FF.h2.duo
    refine bodyPost_ret (v := .tuple #[.agg #[.slice none 0 0, .int .i64 0], .agg #[.bool false, .int .u64 0, .int .u8 0, .int .u8 0], .int .i64 11]) (by simp [results, Tryd.results13, go_sem, r0, r1, s0, s1, s2, s3]) rfl ⟨?_, FF.t⟩
    unfold putX
    rw [if_pos Hs.out]
    exact ⟨none, 0, 0, rfl, rfl, OwnB.nil _ _⟩
  · have Hs := Lib.hid hs
    clear hs
    go_wp2_with fail
    refine (rxsound_any h p ld b _ hld hbb).mono ?_
    rintro e w2 ⟨rfl, b2⟩
    have HF2 := Lib.hid (HF1.out.go b2)
    clear q0 q1 q2 q3 g0 g1 g2 g3 y0 y1 x0 x1 u0 u1 u2 u3 v0 v1
    obtain ⟨⟨q0, q1, q2, q3⟩, g0, g1, g2, g3⟩ := HF2.out.h3.quad
    obtain ⟨⟨y0, y1⟩, x0, x1⟩ := HF2.out.h2.duo
    obtain ⟨⟨u0, u1, u2, u3⟩, -⟩ := HF2.out.h1.quad
    obtain ⟨⟨v0, v1⟩, -⟩ := HF2.out.h0.duo
    have a2 := a1.below b2
    cases hx : soundX ⟨h, p, ld, b⟩
    · have Hx := Lib.hid hx
      clear hx
      go_wp2_with fail
      have FF := HF2.out.fin (.slice none 0 0) (.int .i64 0) (.bool false) (.int .u64 0) (.int .u8 0) (.int .u8 0)
      obtain ⟨⟨s0, s1, s2, s3⟩, -⟩ := FF.h3.quad
      obtain ⟨⟨r0, r1⟩, -⟩ := FF.h2.duo
      refine bodyPost_ret (v := .tuple #[.agg #[.slice none 0 0, .int .i64 0], .agg #[.bool false, .int .u64 0, .int .u8 0, .int .u8 0], .int .i64 30]) (by simp [results, Tryd.results13, go_sem, r0, r1, s0, s1, s2, s3]) rfl ⟨?_, FF.t⟩
      unfold putX
      rw [if_neg (by rw [Hs.out]; decide), if_pos Hx.out]
      exact ⟨none, 0, 0, rfl, rfl, OwnB.nil _ _⟩
    · obtain ⟨m, hm, hm8, -⟩ := sound_nat Hs.out
      obtain ⟨S, hS⟩ : ∃ S : XV, S = ⟨h, p, ld, b⟩ := ⟨_, rfl⟩
      have Hx := Lib.hid hx
      clear hx
      subst hm
      go_wp2_with fail
      refine (written_any h p ld b v _ hv hp Hx.out).mono ?_
      rintro e w3 ⟨HW, b3⟩
      obtain ⟨A3, n3, c3, rfl, hn3, o3⟩ := HW
      have hlen := enc_len (s := ⟨h, p, ld, b⟩) (v := v) Hx.out hp hv
      obtain ⟨M, th, tp, tl, tb, hMT⟩ : ∃ M th tp tl tb, encX ⟨h, p, ld, b⟩ v = (M, ⟨th, tp, tl, tb⟩) := ⟨_, _, _, _, _, rfl⟩
      simp only [hMT] at hn3 o3 hlen ⊢
      have HMT := Lib.hid hMT
      have HF3 := Lib.hid (HF2.out.go b3)
      clear q0 q1 q2 q3 g0 g1 g2 g3 y0 y1 x0 x1 u0 u1 u2 u3 v0 v1 hMT hS
      obtain ⟨⟨q0, q1, q2, q3⟩, g0, g1, g2, g3⟩ := HF3.out.h3.quad
      obtain ⟨⟨y0, y1⟩, x0, x1⟩ := HF3.out.h2.duo
      obtain ⟨⟨v0, v1⟩, -⟩ := HF3.out.h0.duo
      have a3 := a2.below b3
      have hmm : m ≤ 8 * l.length := by omega
      have Hn3 := Lib.hid hn3
      have HBX := Lib.hid (Blk.new w3 24 #[.bool th, .int .u64 tp, .int .u8 tl, .int .u8 tb])
      have HA3 := Lib.hid (a3.below (below_alloc w3 (.cells #[.bool th, .int .u64 tp, .int .u8 tl, .int .u8 tb] 24)))
      obtain ⟨BS, hBS⟩ : ∃ BS, BS = bitl l m ++ M := ⟨_, rfl⟩
      have HBS := Lib.hid hBS
      have HN : Hid ((u8s (bitl l m)).length + (u8s M).length = BS.length) := Lib.hid (by rw [hBS, u8s_length, u8s_length, List.length_append])
      have HU : Hid (u8s (bitl l m) ++ u8s M = u8s BS) := Lib.hid (by rw [hBS, u8s_append])
      have hBSl : BS.length ≤ 1000000 := by rw [hBS, List.length_append, bitl_length]; omega
      have HMl : Hid (M.length ≤ 77) := Lib.hid hlen.2
      clear hn3 hBS hlen
      have kA := keepA
      have kF := keepF
      go_wp2_with (first
        | (go_at_call 25; refine (refList_any A c l m _ HA3.out hmm hl').mono ?_; rintro e w4 ⟨A4, c4, rfl, o4, b4⟩; have t4 := b4.mono (Nat.le_refl _))
        | (at_builtin; refine appAll _ rfl (.tmp 34) (.tmp 35) rfl (w3.heap.size + 1) _ (u8s (bitl l m)) rfl (o4.mono (by simp)) A3 c3 (u8s M) (congrArg (fun k => Value.slice A3 k c3) (Hn3.out.trans (u8s_length M).symm)) ((o3.below (below_alloc w3 _)).below b4).bs (by rw [u8s_length, u8s_length, bitl_length]; have := HMl.out; omega) (by have := b4.size; simp at this; omega) ?_; intro A5 c5 w5 o5 b5; rw [HU.out, HN.out] at o5; rw [HN.out]))
      have b35 : Below (w3.heap.size + 1) (w3.alloc (.cells #[.bool th, .int .u64 tp, .int .u8 tl, .int .u8 tb] 24)) w5 := (b4.mono (by simp)).trans b5
      have HF5 := Lib.hid (HF3.out.on (((below_alloc w3 (.cells #[.bool th, .int .u64 tp, .int .u8 tl, .int .u8 tb] 24)).mono HF3.out.z).trans (b35.mono (by have := HF3.out.z; omega))))
      have HBX5 := Lib.hid (HBX.out.below b35 (by omega) : Blk w5 w3.heap.size 24 #[.bool th, .int .u64 tp, .int .u8 tl, .int .u8 tb])
      clear kA kF q0 q1 q2 q3 g0 g1 g2 g3 y0 y1 x0 x1 v0 v1
      obtain ⟨⟨q0, q1, q2, q3⟩, -⟩ := HBX5.out.quad
      have HOf := Lib.hid (refOf_any A5 c5 BS w5.drew o5.bs (by omega))
      have lt5 : w3.heap.size < w5.heap.size := HBX5.out.lt
      have keepBX : ∀ W, Below w5.heap.size w5 W → Blk W w3.heap.size 24 #[.bool th, .int .u64 tp, .int .u8 tl, .int .u8 tb] := fun W hW => HBX5.out.below hW lt5
      have HkB := Lib.hid keepBX
      clear keepBX
      have ne1 : ¬ w3.heap.size = w.heap.size + 2 := by have := HF3.out.z; omega
      have ne2 : ¬ w3.heap.size = w.heap.size + 3 := by have := HF3.out.z; omega
      have ne3 : ¬ w.heap.size + 2 = w3.heap.size := by omega
      have ne4 : ¬ w.heap.size + 3 = w3.heap.size := by omega
      have dq : w5.drew.cell? ⟨w3.heap.size, 0, none⟩ = some (.bool th) ∧ w5.drew.cell? ⟨w3.heap.size, 1, none⟩ = some (.int .u64 tp) ∧ w5.drew.cell? ⟨w3.heap.size, 2, none⟩ = some (.int .u8 tl) ∧ w5.drew.cell? ⟨w3.heap.size, 3, none⟩ = some (.int .u8 tb) := ⟨q0, q1, q2, q3⟩
      go_region_held3 (fun w' => w'.cell? ⟨w3.heap.size, 0, none⟩ = some (.bool th) ∧ w'.cell? ⟨w3.heap.size, 1, none⟩ = some (.int .u64 tp) ∧ w'.cell? ⟨w3.heap.size, 2, none⟩ = some (.int .u8 tl) ∧ w'.cell? ⟨w3.heap.size, 3, none⟩ = some (.int .u8 tb)) (first | with_reducible exact dq | with_reducible exact ⟨r0, r1, r2, r3⟩ | (simp [World.cell?_setCell_far, ne3, ne4, r0, r1, r2, r3]))
        ((go_at_call 26; refine HOf.out.mono ?_; rintro e w6 ⟨A6, c6, rfl, o6, b6'⟩; have b6 : Below w5.heap.size w5 w6 := ⟨b6'.os, b6'.tape, b6'.output, b6'.size, b6'.block⟩; have HF6 := Lib.hid (HF5.out.go (W' := w6) b6); obtain ⟨⟨r0, r1, r2, r3⟩, k0, k1, k2, k3⟩ := (HkB.out w6 b6).quad; obtain ⟨⟨m0, m1, m2, m3⟩, n0, n1, n2, n3⟩ := HF6.out.h3.quad; obtain ⟨⟨y0, y1⟩, x0, x1⟩ := HF6.out.h2.duo))
      go_wp2_with fail
      have FF := HF6.out.fin (.slice A6 (pack BS).length c6) (.int .i64 BS.length) (.bool th) (.int .u64 tp) (.int .u8 tl) (.int .u8 tb)
      obtain ⟨⟨s0, s1, s2, s3⟩, -⟩ := FF.h3.quad
      obtain ⟨⟨z0, z1⟩, -⟩ := FF.h2.duo
      refine bodyPost_ret (v := .tuple #[.agg #[.slice A6 (pack BS).length c6, .int .i64 BS.length], .agg #[.bool th, .int .u64 tp, .int .u8 tl, .int .u8 tb], .int .i64 0]) (by simp [results, Tryd.results13, go_sem, z0, z1, s0, s1, s2, s3]) rfl ⟨?_, FF.t⟩
      have he : putX l m ⟨h, p, ld, b⟩ v = (pack BS, BS.length, ⟨th, tp, tl, tb⟩, 0) := by
        unfold putX
        rw [if_neg (by rw [Hs.out]; decide), if_neg (by rw [Hx.out]; decide), HMT.out, Int.toNat_natCast, ← HBS.out]
      rw [he]
      exact ⟨A6, _, c6, rfl, rfl, OwnB.fin o6 HF5.out.z _ _ _ _ _ _⟩

end Go.Proofs.YtfooggamdbdniaaDoor
