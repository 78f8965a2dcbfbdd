/- Joined: Chk9, Chk10, Chk11, Chk12, MathO, Chk13, Chk14, Chk15. -/
import Derived.Test.YtiipmjdmmoaodaaDoorQ34
import Derived.Test.YtiipmjdmmoaodaaDoorQ8
import Derived.Test.YtiipmjdmmoaodaaDoorQ20
import Derived.Test.YtiipmjdmmoaodaaDoorQ2
import Derived.Deep.RegionHeld3
import Derived.Test.YtiipmjdmmoaodaaDoorQ10
import Derived.Test.YtiipmjdmmoaodaaDoorQ33
set_option linter.unusedSimpArgs false
set_option linter.unusedVariables false
/- Layer 6: the program's Of. -/
namespace Go.Proofs.YtiipmjdmmoaodaaDoor
open Go.RowKit
set_option maxRecDepth 100000

/-- bits as an element: where, how many bytes, room, how many bits -/
abbrev BE := Option Addr × Nat × Nat × Int
def encBE (x : BE) : List Value := [.slice x.1 x.2.1 x.2.2.1, .int .i64 x.2.2.2]
theorem Tryd.infoBE : (Tryd.prog.info? 43).map (fun i => (i.zero, i.size, i.bytes)) = some (some (.agg #[.slice none 0 0, .int .i64 0]), 2, 32) := by kernel_rfl
theorem Tryd.underBE : Tryd.prog.underlying 131 = some (.slice 43) := by kernel_rfl
theorem Tryd.eltBE : Elt Tryd.prog 131 43 encBE 2 32 := ⟨Tryd.underBE, ⟨_, Tryd.infoBE, rfl⟩, by decide, fun _ => rfl, fun x v h => by
  simp [encBE] at h; rcases h with rfl | rfl <;> rfl⟩

/-- each sample's bits -/
def codeL (e : EC) : List (Int × Nat) → List (List Bool)
  | [] => []
  | s :: l => (encC e s.1 s.2).1 :: codeL (encC e s.1 s.2).2 l
theorem codeL_length (l : List (Int × Nat)) : ∀ e, (codeL e l).length = l.length := by
  induction l with
  | nil => intro e; rfl
  | cons s l ih => intro e; simp [codeL, ih]
theorem codeL_snoc (l : List (Int × Nat)) (s : Int × Nat) : ∀ e : EC, codeL e (l ++ [s]) = codeL e l ++ [(encC (lastC e l) s.1 s.2).1] := by
  induction l with
  | nil => intro e; simp [codeL, lastC]
  | cons u l ih => intro e; simp only [List.cons_append, codeL, ih]; rfl
theorem codeL_cat (l : List (Int × Nat)) : ∀ e : EC, catE ((codeL e l).map fun M => (pack M, (M.length : Int))) = codesC e l := by
  induction l with
  | nil => intro e; rfl
  | cons s l ih =>
    intro e
    simp only [codeL, List.map_cons, codesC]
    rw [← ih]
    unfold catE
    rw [List.flatMap_cons, Int.toNat_natCast, bits_pack]
theorem codeL_sound (cs : List (List Bool)) : soundE (cs.map fun M => (pack M, (M.length : Int))) = true := by
  unfold soundE
  rw [List.all_map, List.all_eq_true]
  intro M _
  exact sound_pack M

/-- the first elements are these bits, in blocks from base on, below hi -/
def CodesOk (w : World) (base hi : Nat) (CL : List BE) (cs : List (List Bool)) : Prop :=
  ∀ (j : Nat) (M : List Bool), cs[j]? = some M → M.length ≤ 146 ∧ ∃ A c, CL[j]? = some (A, (pack M).length, c, (M.length : Int)) ∧ OwnB w base (.slice A (pack M).length c) (pack M) ∧ ∀ k, (Value.slice A (pack M).length c).ownBlock = some k → k < hi
def qC (base hi : Nat) (CL : List BE) (cs : List (List Bool)) : Kq := ⟨fun w => CodesOk w base hi CL cs ∧ hi ≤ w.heap.size, fun k => k < base ∨ hi ≤ k, fun _ => True,
  fun w w' r h hg ha => ⟨fun j M hj => by
    obtain ⟨h1, A, c, h2, h3, h4⟩ := h.1 j M hj
    refine ⟨h1, A, c, h2, World.ownsRow.kept h3 hg ?_, h4⟩
    rcases hv : (Value.slice A (pack M).length c).ownBlock with _ | k
    · exact .inl rfl
    · refine .inr fun e => ?_
      have h5 := h4 k hv
      have h6 := (World.ownsRow.lt h3 k hv).1
      have h7 := ha k e.symm
      omega, Nat.le_trans h.2 hg.size⟩, fun _ _ => trivial⟩
theorem CodesOk.step {w : World} {base hi : Nat} {CL : List BE} {cs : List (List Bool)} (h : CodesOk w base hi CL cs) (hhi : hi ≤ w.heap.size) {M : List Bool} {A : Option Addr} {c : Nat} (ho : OwnB w base (.slice A (pack M).length c) (pack M)) (hM : M.length ≤ 146) (hk : cs.length < CL.length) :
    CodesOk w base w.heap.size (CL.set cs.length (A, (pack M).length, c, (M.length : Int))) (cs ++ [M]) := fun j N hj => by
  rcases Nat.lt_or_ge j cs.length with hlt | hge
  · rw [List.getElem?_append_left hlt] at hj
    obtain ⟨h1, B, d, h2, h3, h4⟩ := h j N hj
    exact ⟨h1, B, d, by rw [List.getElem?_set_ne (by omega)]; exact h2, h3, fun k hk => Nat.lt_of_lt_of_le (h4 k hk) hhi⟩
  · rw [List.getElem?_append_right hge] at hj
    have hj0 : j - cs.length = 0 := by
      rcases Nat.eq_zero_or_pos (j - cs.length) with h0 | h0
      · exact h0
      · rw [List.getElem?_eq_none (by simp; omega)] at hj; cases hj
    rw [hj0] at hj
    simp at hj
    subst hj
    obtain rfl : j = cs.length := by omega
    exact ⟨hM, A, c, by rw [List.getElem?_set_self hk], ho, fun k hk => (World.ownsRow.lt ho k hk).2⟩
theorem CodesOk.bsl {w : World} {base base' hi g n cap : Nat} {CL : List BE} {cs : List (List Bool)} (h : CodesOk w base hi CL cs) (hr : OwnR w base' 43 encBE 2 (.slice (some ⟨g, 0, none⟩) n cap) CL) : BsL w (some ⟨g, 0, none⟩) (cs.map fun M => (pack M, (M.length : Int))) := fun i e hi => by
  rw [List.getElem?_map, Option.map_eq_some_iff] at hi
  obtain ⟨M, hM, rfl⟩ := hi
  obtain ⟨h1, A, c, h2, h3, -⟩ := h i M hM
  obtain ⟨V, d, hv, -, hw⟩ := OwnR.row Tryd.eltBE hr
  injection hv with e1 _ _
  obtain ⟨p, o, hA, hc⟩ := hw i _ h2
  rw [← e1] at hA
  injection hA with e2
  injection e2 with e2 e3 _
  subst e2; subst e3
  exact ⟨g, 0, A, c, rfl, hc 0 _ rfl, hc 1 _ rfl, h3.bs, by simp only; omega⟩

/-- what is known, as cells -/
abbrev EC.cells (e : EC) : Array Value := #[.int .i64 e.n, .int .i64 e.last, .int .i64 e.delta, .bool e.val.has, .int .u64 e.val.prev, .int .u8 e.val.lead, .int .u8 e.val.width]
theorem OkC.small {n la de : Int} {h : Bool} {p L X : Nat} (k : OkC ⟨n, la, de, ⟨h, p, L, X⟩⟩) : L < 256 ∧ X < 256 := by
  have := k.val
  unfold soundX at this
  cases h <;> simp at this <;> omega

theorem fin27t {W W' : World} {ks : List Kq} {g1 g2 : Nat} {t1 t2 : TypeId} {a1 a2 b1 b2 b3 b4 b5 b6 b7 : Value} (a b c1 c2 c3 c4 c5 c6 c7 : Value)
    (h : Qs W (qB g1 t1 #[a1, a2] :: qB g2 t2 #[b1, b2, b3, b4, b5, b6, b7] :: ks)) (h1 : apAll g1 ks) (h2 : apAll g2 ks) (hne : g1 ≠ g2)
    (hW : sets (sets W g1 [(0, a), (1, b)]) g2 [(0, c1), (1, c2), (2, c3), (3, c4), (4, c5), (5, c6), (6, c7)] = W') : Qs W' (qB g1 t1 #[a, b] :: qB g2 t2 #[c1, c2, c3, c4, c5, c6, c7] :: ks) :=
  (h.put 0 g1 _ #[a, b] ⟨Ne.symm hne, h1⟩).putTo 1 g2 _ #[c1, c2, c3, c4, c5, c6, c7] hW ⟨hne, h2⟩

end Go.Proofs.YtiipmjdmmoaodaaDoor

/- Layer 6: the document's Of. -/
namespace Go.Proofs.YtiipmjdmmoaodaaDoor
open Go.RowKit
set_option maxRecDepth 100000

theorem codesC_le (l : List (Int × Nat)) (k : Nat) (hl : l.length ≤ 1000) (hi : InC l) : (codesC ec0 (l.take k)).length ≤ 146000 := by
  have h := rows_ok (l.take k) ec0 ok0 (Int.le_refl _) (by rw [List.length_take]; show (0 : Int) + _ ≤ _; omega) (fun s hs => hi s (List.mem_of_mem_take hs))
  have := h.2.2.1
  rw [List.length_take] at this
  omega

end Go.Proofs.YtiipmjdmmoaodaaDoor

/- Layer 6: known; ChunkPuts, ChunkGets, ChunkLays. -/
namespace Go.Proofs.YtiipmjdmmoaodaaDoor
open Go.RowKit
set_option maxRecDepth 100000

def l2k : List (Int × Nat) := [(10, 1), (20, 1)]
theorem l2k_in : InC l2k := by
  intro s hs
  simp only [l2k, List.mem_cons, List.not_mem_nil, or_false] at hs
  unfold in64
  rcases hs with rfl | rfl <;> decide
theorem l2k_of : ofC ec0 l2k = (codesC ec0 l2k, ⟨2, 20, 10, ⟨true, 1, 0, 0⟩⟩, 0) := by
  rw [(ofC_rise l2k ec0 ok0 (Int.le_refl _) (by decide) l2k_in).1 ⟨fun h => absurd rfl h, fun _ => by decide, trivial⟩]
  have : lastC ec0 l2k = ⟨2, 20, 10, ⟨true, 1, 0, 0⟩⟩ := by kernel_rfl
  rw [this]
theorem l2k_len : (codesC ec0 l2k).length = 138 := by kernel_rfl
theorem k2_put (M : List Bool) (hM : M.length = 138) : ∃ N, putC (pack M) 138 ⟨2, 20, 10, ⟨true, 1, 0, 0⟩⟩ 30 1 = (N, (encC ⟨2, 20, 10, ⟨true, 1, 0, 0⟩⟩ 30 1).2, 0) ∧ N.length = 140 := by
  refine ⟨M ++ (encC ⟨2, 20, 10, ⟨true, 1, 0, 0⟩⟩ 30 1).1, ?_, ?_⟩
  · have h1 := sound_pack M
    rw [hM] at h1
    unfold putC
    rw [if_neg (by rw [show ((138 : Int)) = ((138 : Nat) : Int) from rfl, h1]; decide), if_neg (by decide)]
    have h2 := bits_pack M
    rw [hM] at h2
    rw [show ((138 : Int)).toNat = 138 from rfl, h2]
  · rw [List.length_append, hM, show (encC ⟨2, 20, 10, ⟨true, 1, 0, 0⟩⟩ 30 1).1.length = 2 by kernel_rfl]
theorem k2_bad (M : List Bool) (hM : M.length = 138) : putC (pack M) 138 ⟨2, 20, 10, ⟨true, 1, 0, 0⟩⟩ 20 1 = ([], ec0, 60) := by
  have h1 := sound_pack M
  rw [hM] at h1
  unfold putC
  rw [if_neg (by rw [show ((138 : Int)) = ((138 : Nat) : Int) from rfl, h1]; decide), if_pos (by decide)]
  rfl

end Go.Proofs.YtiipmjdmmoaodaaDoor

/- Layer 6: the walks of ChunkPuts, ChunkGets, ChunkLays. -/
namespace Go.Proofs.YtiipmjdmmoaodaaDoor
open Go.RowKit
set_option maxRecDepth 100000

theorem putC_code (l : List UInt8) (nb : Int) (e : EC) (t : Int) (v : Nat) : (putC l nb e t v).2.2 ≤ 61 := by
  unfold putC
  split
  · simp
  · split
    · exact mayC_le e t
    · simp
theorem getC_code (l : List UInt8) (nb : Int) (e : EC) (a : Int) : (getC l nb e a).c ≤ 61 := by
  unfold getC
  split
  · simp [rc0]
  · split
    · simp [rc0]
    · unfold gotC
      split
      · simp [rc0]
      · split <;> simp [rc0]
theorem ofC_code (l : List (Int × Nat)) (hl : l.length ≤ 1000) (hi : InC l) : (ofC ec0 l).2.2 ≤ 61 := by
  have h := ofC_rise l ec0 ok0 (Int.le_refl _) (by show (0 : Int) + _ ≤ _; omega) hi
  by_cases hr : RiseC ec0 l
  · rw [h.1 hr]; simp
  · rw [h.2 hr]; simp

end Go.Proofs.YtiipmjdmmoaodaaDoor

/- Plain mathematics: layer 6, those of a list whose times rise. -/
namespace Go.Proofs.YtiipmjdmmoaodaaDoor

def rsS (out : List (Int × Nat)) (s : Int × Nat) : List (Int × Nat) := if h : out = [] then [s] else if (out.getLast h).1 < s.1 then out ++ [s] else out
def rsL (l : List (Int × Nat)) : List (Int × Nat) := l.foldl rsS []
theorem rsL_snoc (l : List (Int × Nat)) (k : Nat) (h : k < l.length) : rsL (l.take (k + 1)) = rsS (rsL (l.take k)) l[k] := by
  unfold rsL
  rw [List.take_succ_eq_append_getElem h, List.foldl_append]
  rfl
theorem rsL_len (l : List (Int × Nat)) (k : Nat) (h : k ≤ l.length) : (rsL (l.take k)).length ≤ k := by
  induction k with
  | zero => simp [rsL]
  | succ k ih =>
    rw [rsL_snoc l k (by omega)]
    have := ih (by omega)
    unfold rsS
    split
    · simp
    · split
      · simp; omega
      · omega
theorem rsL_length (l : List (Int × Nat)) : (rsL l).length ≤ l.length := by
  have := rsL_len l l.length (Nat.le_refl _)
  rwa [List.take_length] at this
theorem rsL_ok (l : List (Int × Nat)) (hi : InC l) : RiseC ec0 (rsL l) ∧ InC (rsL l) := by
  have key : ∀ k, k ≤ l.length → RiseC ec0 (rsL (l.take k)) ∧ InC (rsL (l.take k)) := by
    intro k
    induction k with
    | zero => intro _; exact ⟨trivial, fun s hs => by simp [rsL] at hs⟩
    | succ k ih =>
      intro hk
      obtain ⟨h1, h2⟩ := ih (by omega)
      rw [rsL_snoc l k (by omega)]
      have hs := hi l[k] (List.getElem_mem _)
      unfold rsS
      split
      · exact ⟨⟨fun h => absurd rfl h, trivial⟩, fun s h => by simp at h; subst h; exact hs⟩
      · rename_i hne
        split
        · rename_i hlt
          refine ⟨RiseC.snoc h1 fun _ => ?_, fun s h => ?_⟩
          · have e : rsL (l.take k) = (rsL (l.take k)).dropLast ++ [(rsL (l.take k)).getLast hne] := (List.dropLast_concat_getLast hne).symm
            rw [e, lastC_last]
            exact hlt
          · rcases List.mem_append.1 h with h | h
            · exact h2 s h
            · simp at h; subst h; exact hs
        · exact ⟨h1, h2⟩
  have := key l.length (Nat.le_refl _)
  rwa [List.take_length] at this

end Go.Proofs.YtiipmjdmmoaodaaDoor

/- Layer 6: the statements' helpers: rising, Same. -/
namespace Go.Proofs.YtiipmjdmmoaodaaDoor
open Go.RowKit
set_option maxRecDepth 100000

theorem OwnS.form {w : World} {base : Nat} {v : Value} {l : List (Int × Nat)} (h : OwnS w base v l) (hl : l ≠ []) :
    ∃ g cap, v = .slice (some ⟨g, 0, none⟩) l.length cap ∧ base ≤ g ∧ Ss w (some ⟨g, 0, none⟩) l := by
  obtain ⟨A, c, rfl, _, hs⟩ := OwnS.ss h
  rcases h.2 with ⟨_, h0⟩ | ⟨g, cap, cur, hv, hb, _⟩
  · exact absurd (List.eq_nil_of_length_eq_zero h0) hl
  · injection hv with e1 e2 e3
    subst e1
    exact ⟨g, c, rfl, hb, hs⟩

theorem pair_eq {a b : Int × Nat} : a = b ↔ a.1 = b.1 ∧ a.2 = b.2 := by
  cases a; cases b; simp

set_option maxHeartbeats 1000000 in
theorem csame_any (V U : Option Addr) (c d : Nat) (a b : List (Int × Nat)) (w : World) (hV : Ss w V a) (hU : Ss w U b) (hal : a.length ≤ 4096) (hbl : b.length ≤ 4096) :
    Calls Tryd.prog 16 #[.slice V a.length c, .slice U b.length d] w fun e w' => e = .returned (.bool (decide (a = b))) ∧ Below w.heap.size w w' := by
  obtain ⟨r, hr⟩ : ∃ r, r = decide (a = b) := ⟨_, rfl⟩
  rw [← hr]
  have HR := Lib.hid hr
  clear hr
  by_cases hlen : a.length = b.length
  · have HL := Lib.hid hlen
    have HV := Lib.hid hV
    have HU := Lib.hid hU
    rw [← hlen]
    clear hlen hV hU hbl
    go_enter Tryd.func16, Tryd.ntmps16
    go_wp2_with fail
    go_loopw [5] (fun i wr => ∃ k : Nat, k ≤ a.length ∧ i = .int .i64 k ∧ Hid (a.take k = b.take k) ∧ Below w.heap.size w wr)
      (fun i _ => a.length - (intOf i).toNat)
    case atStart => exact ⟨0, Nat.zero_le _, rfl, Lib.hid rfl, Below.refl _ _⟩
    case round =>
      obtain ⟨k, hk, rfl, HE, hbel⟩ := hrel
      rcases Nat.lt_or_ge k a.length with hlt | hge
      · have hltb : k < b.length := by have := HL.out; omega
        obtain ⟨p, o, rfl, h1, h2⟩ := (HV.out.below hbel) k a[k] (List.getElem?_eq_getElem hlt)
        obtain ⟨p', o', rfl, h3, h4⟩ := (HU.out.below hbel) k b[k] (List.getElem?_eq_getElem hltb)
        obtain ⟨t, v, hs⟩ : ∃ t v, a[k] = (t, v) := ⟨_, _, rfl⟩
        obtain ⟨t', v', hs'⟩ : ∃ t v, b[k] = (t, v) := ⟨_, _, rfl⟩
        rw [hs] at h1 h2
        rw [hs'] at h3 h4
        dsimp only at h1 h2 h3 h4
        have k0 : 0 ≤ (k : Int) := by omega
        have k1 : (k : Int) < a.length := by omega
        by_cases he : t = t' ∧ v = v'
        · obtain ⟨rfl, rfl⟩ := he
          have hE2 : a.take (k + 1) = b.take (k + 1) := by
            rw [List.take_succ_eq_append_getElem hlt, List.take_succ_eq_append_getElem hltb, HE.out, hs, hs']
          have HE2 := Lib.hid hE2
          clear hE2 hs hs'
          go_wp2_with fail
          go_quiet (fail)
          go_wp2_with fail
          go_roundw
          case measure => simp [intOf]; omega
          case rel => exact ⟨k + 1, hlt, by go_num, HE2, below_drewN hbel nq⟩
        · have hne : a ≠ b := by
            intro e
            subst e
            rw [hs] at hs'
            simp only [Prod.mk.injEq] at hs'
            exact he hs'
          have Hd := Lib.hid (show r = false by rw [HR.out]; simpa using hne)
          clear hs hs' hne
          by_cases ht : t = t'
          · subst ht
            have kv : ((v : Int) == (v' : Int)) = false := beq_eq_false_iff_ne.2 (fun e => he ⟨rfl, by omega⟩)
            clear he
            go_wp2_with fail
            go_quiet (fail)
            go_wp2_with fail
            go_ret
            exact ⟨by rw [Hd.out]; rfl, below_drewN hbel nq⟩
          · have kt : (t == t') = false := beq_eq_false_iff_ne.2 ht
            clear he
            go_wp2_with fail
            go_quiet (fail)
            go_wp2_with fail
            go_ret
            exact ⟨by rw [Hd.out]; rfl, below_drewN hbel nq⟩
      · obtain rfl : k = a.length := by omega
        have hab : a = b := by
          have h1 := HE.out
          rw [List.take_length, HL.out, List.take_length] at h1
          exact h1
        have Hd := Lib.hid (show r = true by rw [HR.out]; simpa using hab)
        clear hab
        go_wp2_with fail
        go_ret
        exact ⟨by rw [Hd.out]; rfl, hbel⟩
  · have Hd := Lib.hid (show r = false by rw [HR.out]; simp; exact fun e => hlen (by rw [e]))
    have kl : ((a.length : Int) == (b.length : Int)) = false := beq_eq_false_iff_ne.2 (by omega)
    have kl2 : ((a.length : Int) != (b.length : Int)) = true := by simp; omega
    go_enter Tryd.func16, Tryd.ntmps16
    go_wp2_with fail
    go_ret
    exact ⟨by rw [Hd.out]; rfl, Below.refl _ _⟩

end Go.Proofs.YtiipmjdmmoaodaaDoor

/- Layer 6: the walk of ChunkApart. -/
namespace Go.Proofs.YtiipmjdmmoaodaaDoor
open Go.RowKit
set_option maxRecDepth 100000

theorem same_codes {a b : List (Int × Nat)} (ha : RiseC ec0 a) (hb : RiseC ec0 b) (hia : InC a) (hib : InC b) (hal : a.length ≤ 1000) (hbl : b.length ≤ 1000) :
    (decide (((codesC ec0 a).length : Int) = ((codesC ec0 b).length : Int)) && decide (pack (codesC ec0 a) = pack (codesC ec0 b))) = decide (a = b) := by
  by_cases h : a = b
  · subst h; simp
  · have hne : ¬ (codesC ec0 a).length = (codesC ec0 b).length ∨ ¬ pack (codesC ec0 a) = pack (codesC ec0 b) := by
      by_cases h1 : (codesC ec0 a).length = (codesC ec0 b).length
      · right
        intro h2
        exact h (codesC_inj ok0 (Int.le_refl _) (by show (0 : Int) + _ ≤ _; omega) (by show (0 : Int) + _ ≤ _; omega) hia hib ha hb (pack_inj h1 h2))
      · exact Or.inl h1
    have hd : decide (a = b) = false := by simpa using h
    rw [hd]
    rcases hne with h1 | h1
    · have : decide (((codesC ec0 a).length : Int) = ((codesC ec0 b).length : Int)) = false := by simp; omega
      rw [this]; rfl
    · have : decide (pack (codesC ec0 a) = pack (codesC ec0 b)) = false := by simpa using h1
      rw [this, Bool.and_false]

end Go.Proofs.YtiipmjdmmoaodaaDoor

/- Layer 6: the walk of ChunkGoes. -/
namespace Go.Proofs.YtiipmjdmmoaodaaDoor
open Go.RowKit
set_option maxRecDepth 100000

/-- what lies at a place of laid bits is read -/
theorem getC_at {C N r : List Bool} {e e' : EC} {t : Int} {v : Nat} (he : OkC e) (ht : in64 t) (hv : v < 18446744073709551616) (hr : e.n ≠ 0 → e.last < t) (hN : encC e t v = (N, e')) :
    getC (pack (C ++ (N ++ r))) ((C ++ (N ++ r)).length : Int) e (C.length : Int) = ⟨t, v, ((C.length + N.length : Nat) : Int), e', 0⟩ := by
  unfold getC
  rw [if_neg (by rw [sound_pack]; decide), if_neg (by rw [he.snd]; decide), Int.toNat_natCast]
  unfold gotC
  have h1 : ¬ ((C.length : Int) < 0 ∨ ((C ++ (N ++ r)).length : Int) < (C.length : Int)) := by
    rw [List.length_append]; omega
  rw [if_neg h1, Int.toNat_natCast, bits_pack, List.drop_left]
  have hd := decC_enc he ht hv hr r
  rw [hN] at hd
  dsimp only at hd
  rw [hd]
  dsimp only
  congr 1
theorem codes_split (S : List (Int × Nat)) (j : Nat) (h : j < S.length) : codesC ec0 S = codesC ec0 (S.take j) ++ ((encC (lastC ec0 (S.take j)) S[j].1 S[j].2).1 ++ codesC (encC (lastC ec0 (S.take j)) S[j].1 S[j].2).2 (S.drop (j + 1))) := by
  have h1 := codesC_app (S.take j) (S.drop j) ec0
  rw [List.take_append_drop, List.drop_eq_getElem_cons h] at h1
  rw [h1]
  rfl

end Go.Proofs.YtiipmjdmmoaodaaDoor
