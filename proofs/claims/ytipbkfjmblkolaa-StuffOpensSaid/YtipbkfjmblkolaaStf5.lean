/- The program's Wrap. -/
import Derived.Test.YtipbkfjmblkolaaStf4b
namespace Go.Proofs.Ytipbkfjmblkolaa
open Go.RowKit Go.Shelf

attribute [local go_sem] Oper.semAt_some

def outP {w0 : World} (xs : List (PartIn w0)) : List UInt8 := (bytesP xs).flatMap partE
theorem outP_snoc {w0 : World} (xs : List (PartIn w0)) (x : PartIn w0) : outP (xs ++ [x]) = outP xs ++ partE x.1.2.2 := by simp [outP, bytesP_snoc]
theorem outP_len {w0 : World} (xs : List (PartIn w0)) : (outP xs).length ≤ xs.length * 200001 := by
  unfold outP bytesP
  rw [List.flatMap_map]
  induction xs with
  | nil => simp
  | cons x xs ih =>
    rw [List.flatMap_cons, List.length_append, List.length_cons]
    have h1 := partE_len x.1.2.2
    have h2 := x.2.2.2
    omega

set_option maxRecDepth 100000 in
set_option maxHeartbeats 2000000 in
theorem wrap_any (A : Option Addr) (c : Nat) (l : List UInt8) (w : World) (hl : Bs w A l) (hc : l.length ≤ c) (hn : l.length ≤ 100000) :
    Calls Try.prog 19 #[.slice A l.length c] w fun e w' => ∃ A' n' c', e = .returned (.slice A' n' c') ∧ n' = (wrapL l).length ∧ OwnB w' w.heap.size (.slice A' n' c') (wrapL l) ∧ Below w.heap.size w w' := by
  have hdiv : l.length / 254 ≤ 100000 := by omega
  have e1 : Int.tdiv (l.length : Int) 254 = ((l.length / 254 : Nat) : Int) := by
    rw [Int.tdiv_eq_ediv_of_nonneg (by omega)]; omega
  have n1 : 0 ≤ (l.length : Int) := by omega
  obtain ⟨dv, hdv⟩ : ∃ dv, dv = l.length / 254 := ⟨_, rfl⟩
  rw [← hdv] at e1 hdiv
  have e2 : IntKind.i64.wrap ((l.length : Int) + (dv : Int)) = ((l.length + dv : Nat) : Int) := by rw [IntKind.wrap_i64]; omega
  have e3 : IntKind.i64.wrap (((l.length + dv : Nat) : Int) + 2) = ((l.length + dv + 2 : Nat) : Int) := by rw [IntKind.wrap_i64]; omega
  have e4 : IntKind.i64.wrap (dv : Int) = (dv : Int) := by rw [IntKind.wrap_i64]; omega
  have e5 : wrap64 ((l.length : Int) + (dv : Int) + 2) = ((l.length + dv + 2 : Nat) : Int) := by unfold wrap64; omega
  have Hn := Lib.hid hn
  have Hdv := Lib.hid hdiv
  clear hdv hdiv hn
  refine (callsIn_wide (n := 3)).1 ?_
  refine callsIn_of_wp_marks Try.func19 rfl trivial ?_ rfl
  simp only [Try.ntmps19, List.size_toArray, List.length_cons, List.length_nil, Nat.reduceAdd, Nat.reduceSub, Array.replicate_succ, Array.replicate_zero, List.push_toArray, List.append_toArray, List.nil_append, List.cons_append]
  obtain ⟨i, hi, hz, hsz, hby⟩ := info_parts Try.info_u8
  gi_wp2_with (first
    | (refine wpListIn_make_own _ rfl _ (.tmp 11) 22 rfl w.heap.size 5 i (.int .u8 0) 1 Try.underlying22 hi hz hsz .i64 .i64 _ (l.length + dv + 2) rfl rfl e5 (by have := Hn.out; have := Hdv.out; rw [hby]; omega) (by have := Hn.out; have := Hdv.out; unfold maxLen; omega) (Nat.le_refl _) ?_; intro w1 o1 g1)
    | (refine ⟨trivial, ?_⟩; gi_at_call 27; refine (callsIn_wide.2 (parts_any A l.length c _)).mono ?_; rintro e w2 ⟨rfl, rfl⟩))
  have hB1 : Below w.heap.size w w1 := (Below.refl _ _).grown g1 (Nat.le_refl _) (fun k hk => by cases hk)
  have z1 := hB1.size
  have bO := (Boxed.new w1 22 (.slice (some ⟨w.heap.size, 0, none⟩) 0 (l.length + dv + 2))).alloc (.cells #[.slice A l.length c] 22)
  have bN := (Boxed.new (w1.alloc (.cells #[(.slice (some ⟨w.heap.size, 0, none⟩) 0 (l.length + dv + 2))] 22)) 22 (.slice A l.length c)).cell
  rw [World.size_alloc] at bN
  have hB0 : Below w.heap.size w ((w1.alloc (.cells #[(.slice (some ⟨w.heap.size, 0, none⟩) 0 (l.length + dv + 2))] 22)).alloc (.cells #[.slice A l.length c] 22)) := (hB1.alloc z1 _).alloc (by simp; omega) _
  have oO := (World.ownsRow.alloc (World.ownsRow.alloc o1 (.cells #[(.slice (some ⟨w.heap.size, 0, none⟩) 0 (l.length + dv + 2))] 22)) (.cells #[.slice A l.length c] 22))
  refine wpIn_rangeFunc_ownG rfl (by omega) (gf := 35) (lb := #[.pointer (some ⟨w1.heap.size + 1, 0, none⟩)]) rfl trivial (enters_of Try.func35 (by kernel_rfl) rfl)
    (parts_stops _ (by omega) (w1.heap.size + 1) w _ A c l hl hc Hn.out hB0 (by simp) bN) belowK_t (belowK_b (by simp; omega)) (Below.refl _ _) (fun _ => rfl)
    (fun pre W => (∃ v, Boxed W w1.heap.size 22 v ∧ W.ownsRow w.heap.size 5 1 v (outP pre).length ((outP pre).map bv) ∧ True) ∧ Below w.heap.size w W)
    (fun _ _ _ => False)
    (OwnFrom.and (Own.from (holdsRow_own w.heap.size w1.heap.size 22 5 1 (fun pre => (outP pre).length) (fun pre => (outP pre).map bv) (fun _ _ => True)) _) (ownFrom_below (Nat.le_refl _) (by simp; omega)))
    (fun _ _ _ _ _ hs _ _ => hs)
    ⟨⟨_, bO, oO, trivial⟩, hB0⟩
    (fun x => { tmps := #[.slice A l.length c, undef, .slice none 0 0, .pointer (some ⟨w1.heap.size, 0, none⟩), .slice x.1.1 x.1.2.2.length x.1.2.1, .slice A l.length c, .int .i64 l.length, .slice A l.length c, .int .i64 l.length,
      .int .i64 dv, .int .i64 ((l.length : Int) + dv), .int .i64 ((l.length : Int) + dv + 2), (.slice (some ⟨w.heap.size, 0, none⟩) 0 (l.length + dv + 2)), .slice A l.length c, .func (.func 35) #[] #[.pointer (some ⟨w1.heap.size + 1, 0, none⟩)], .slice x.1.1 x.1.2.2.length x.1.2.1,
      undef, undef, undef, undef, undef, undef, undef, undef, undef, undef, undef, undef, undef, undef, undef, undef, undef, undef, undef, undef, undef, undef, undef, undef, undef], defers := [] }) ?assign ?body ?done ?stop
  case assign =>
    intro l x W K hK
    simp only [encP]
    gi_wp2
    exact hK
  case body =>
    rintro ll pre x W ⟨⟨v, hv, hrow, _⟩, hB⟩ hlt
    obtain ⟨⟨PA, pc, p⟩, hpb, hpc, hpn⟩ := x
    simp only at hpb hpc hpn
    obtain ⟨R, hR⟩ : ∃ R, R = outP pre ++ partE p := ⟨_, rfl⟩
    have hRl : R.length ≤ 40000000000 := by
      have h1 := outP_len pre
      have h2 := partE_len p
      have := Hn.out
      rw [hR, List.length_append]
      have : pre.length * 200001 ≤ 100000 * 200001 := Nat.mul_le_mul_right _ (by omega)
      omega
    have HR := Lib.hid hR
    have HRl := Lib.hid hRl
    have hmx : Try.prog.follows .mixedOrders = true := by kernel_rfl
    have hd1 : 1 ≤ 3 - 1 - 1 := by decide
    clear hR hRl o1 g1 bO bN hB0 oO hB1 hl hc e1 e2 e3 e4 e5
    gi_wp2
    gi_loopw [4] (fun s0 wr => ∃ A' c' p' L' v', s0 = .slice A' p'.length c' ∧ p'.length ≤ c' ∧ p'.length ≤ 100000 ∧ Bs w A' p' ∧ Boxed wr w1.heap.size 22 v' ∧ OwnB wr w.heap.size v' L' ∧ Below w.heap.size w wr ∧ Hid (R = L' ++ partE p') ∧ KeepsOthers W wr ∧ Below w.heap.size W wr)
      (fun s0 _ => match s0 with | .slice _ n _ => n | _ => 0)
    case atStart => exact ⟨PA, pc, p, outP pre, v, rfl, hpc, hpn, hpb, hv, hrow, hB, HR, KeepsOthers.refl _, Below.refl _ _⟩
    case round =>
      obtain ⟨A', c', p', L', v', rfl, hpc', hpn', hpb', hv', hown', tB, HR', hKO, hBW⟩ := hrel
      have hLl : L'.length ≤ 40000000000 := by
        have := HRl.out
        rw [HR'.out, List.length_append] at this
        omega
      obtain ⟨V1, V2, rfl, _⟩ := hown'.isB
      have hcv := hv'.cell
      have hfv := hv'.frozen
      rcases Nat.lt_or_ge 253 p'.length with hlt2 | hge
      · have d1 : decide ((254 : Int) ≤ p'.length) = true := by simp; omega
        have d2 : decide (254 ≤ p'.length) = true := by simp; omega
        have d3 : (254 : Int) ≤ p'.length := by omega
        have d4 : 254 ≤ p'.length := by omega
        have d5 : (254 : Int) ≤ c' := by omega
        have d6 : 254 ≤ c' := by omega
        have HLl := Lib.hid hLl
        clear hLl
        gi_wp2_with (gi_at_builtin; refine wpListIn_append_own _ rfl (.tmp 19) (.tmp 20) 22 rfl w.heap.size 5 i (.int .u8 0) 1 1 Try.underlying22 hi hz hsz hby rfl (by decide) _ _ (L'.map bv) rfl (hown'.alloc _) ⟨wr.heap.size, 0, none⟩ 1 1 [.int .u8 255] rfl rfl (cell_one_new _ _ _) (by simp [Value.oneCell']) (by have := HLl.out; unfold maxLen; omega) (by have := HLl.out; omega) (by have := tB.size; simp; omega) ?_; intro v2 w2 hown2 hgrow2 _; obtain ⟨g2, c2, rfl⟩ := ownsRow_succ hown2; obtain ⟨hv1, hv2, hr2, hk2, hb2⟩ := hv'.appended (by decide) hown' tB.size z1 hown2 hgrow2; have hc1 := hv1.cell; have hf1 := hv1.frozen)
        have hc3 := hv2.cell
        have hf3 := hv2.frozen
        have hKO2 := hKO.trans hk2
        have hBW2 := hBW.trans hb2
        have tB2 := tB.trans hb2
        clear hv1 hc1 hf1 hgrow2 hown2 hk2 hb2 hKO hBW tB hv' hown' hcv hfv
        generalize w2.setCell _ _ = W5 at *
        obtain ⟨q, hq⟩ : ∃ q, q = p'.take 254 := ⟨_, rfl⟩
        have hql : q.length = 254 := by rw [hq, List.length_take]; omega
        have hfin : R = (L' ++ [255] ++ q) ++ partE (p'.drop 254) := by rw [HR'.out, partE_long d4, hq]; simp
        obtain ⟨pb, po, rfl, _⟩ := hpb' 0 (p'[0]'(by omega)) (List.getElem?_eq_getElem _)
        have hqb : Bs W5 (some ⟨pb, po, none⟩) q := by rw [hq]; exact (hpb'.below tB2).take 254
        have Hfin := Lib.hid hfin
        clear hq hfin
        have o5 : OwnB W5 w.heap.size (.slice (some ⟨g2, 0, none⟩) (L'.length + 1) c2) (L' ++ [255]) := by unfold OwnB; rw [List.length_append, List.map_append]; exact hr2
        refine wpIn_region_any (by kernel_rfl) ?_
        change wpAnyIn _ _ _ _ _ _ _ _ _ (World.drew _)
        refine wpAnyIn_ready (rs := [0, 1]) (by kernel_rfl) (by simp) ?_
        refine AllReadyIn.cons rfl (fun K hK => ?_) (AllReadyIn.cons rfl (fun K hK => ?_) AllReadyIn.nil)
        · go_simp
          refine hK _ _ ?_; clear hK K
          refine wpAnyIn_ready (rs := [1]) (by kernel_rfl) (by simp) ?_
          refine AllReadyIn.cons rfl (fun K hK => ?_) AllReadyIn.nil
          go_simp
          refine hK _ _ ?_; clear hK K
          refine wpAnyIn_ready (rs := [2]) (by kernel_rfl) (by simp) ?_
          refine AllReadyIn.cons rfl (fun K hK => ?_) AllReadyIn.nil
          go_simp
          refine hK _ _ ?_; clear hK K
          refine wpAnyIn_ready (rs := [3]) (by kernel_rfl) (by simp) ?_
          refine AllReadyIn.cons rfl (fun K hK => ?_) AllReadyIn.nil
          rw [if_pos (by kernel_rfl)]
          refine operAll _ (.tmp 22) (.tmp 24) rfl w.heap.size (.slice (some ⟨g2, 0, none⟩) (L'.length + 1) c2) (L' ++ [255]) rfl o5 (some ⟨pb, po, none⟩) c' q (congrArg (fun n => Value.slice (some ⟨pb, po, none⟩) n c') hql.symm) hqb (by have := HLl.out; simp; omega) tB2.size fun v6 w6 o6 g6 => hK _ _ ?_
          clear hK K
          obtain ⟨A6, c6, rfl, _⟩ := o6.isB
          have hn6 : (L' ++ [255] ++ q).length = L'.length + 255 := by simp [hql]
          obtain ⟨hv5, hv6, hr6, hk6, hb6⟩ := Boxed.appended0 (W := W5.drew) hv2 (by decide) o5 tB2.size z1 o6 g6
          have hc5 := hv5.cell
          have hf5 := hv5.frozen
          dsimp only [Act.put]
          refine wpAnyIn_ready (rs := [4]) (by kernel_rfl) (by simp) ?_
          refine AllReadyIn.cons rfl (fun K hK => ?_) AllReadyIn.nil
          go_simp
          refine hK _ _ ?_; clear hK K
          refine wpAnyIn_done (by kernel_rfl) ?_ _
          have hKO7 := (hKO2.trans (KeepsOthers.drew W5)).trans hk6
          have hBW7 : Below w.heap.size W _ := (Below.drew hBW2).trans hb6
          have tB7 : Below w.heap.size w _ := (Below.drew tB2).trans hb6
          rw [hn6] at hv6 hr6 hKO7 hBW7 tB7
          clear hv5 hc5 hf5 hk6 hb6 g6 hv2 hr2 hc3 hf3 o5 o6 hqb hKO2 hBW2 tB2
          generalize w6.setCell _ _ = W7 at *
          gi_wp2_with (refine cutBEIn _ rfl (.tmp 26) (.const (.int .i64 254)) rfl (some ⟨pb, po, none⟩) p'.length c' rfl (.inr ⟨_, _, rfl⟩) 254 rfl d4 hpc' ?_; intro X hX hFX; have HX := Lib.hid hX; clear hX hFX)
          refine ⟨⟨X, c' - 254, p'.drop 254, L' ++ [255] ++ q, _, by rw [List.length_drop], by rw [List.length_drop]; omega, by rw [List.length_drop]; omega, HX.out w p' hpb' hpc', hv6, (by unfold OwnB; rw [hn6]; exact hr6), tB7, Hfin, hKO7, hBW7⟩, ?_⟩
          show p'.length - 254 < p'.length
          omega
        · go_simp
          refine hK _ _ ?_; clear hK K
          refine wpAnyIn_ready (rs := [0, 2]) (by kernel_rfl) (by simp) ?_
          refine AllReadyIn.cons rfl (fun K hK => ?_) (AllReadyIn.cons rfl (fun K hK => ?_) AllReadyIn.nil)
          · go_simp
            refine hK _ _ ?_; clear hK K
            refine wpAnyIn_ready (rs := [2]) (by kernel_rfl) (by simp) ?_
            refine AllReadyIn.cons rfl (fun K hK => ?_) AllReadyIn.nil
            go_simp
            refine hK _ _ ?_; clear hK K
            refine wpAnyIn_ready (rs := [3]) (by kernel_rfl) (by simp) ?_
            refine AllReadyIn.cons rfl (fun K hK => ?_) AllReadyIn.nil
            rw [if_pos (by kernel_rfl)]
            refine operAll _ (.tmp 22) (.tmp 24) rfl w.heap.size (.slice (some ⟨g2, 0, none⟩) (L'.length + 1) c2) (L' ++ [255]) rfl o5 (some ⟨pb, po, none⟩) c' q (congrArg (fun n => Value.slice (some ⟨pb, po, none⟩) n c') hql.symm) hqb (by have := HLl.out; simp; omega) tB2.size fun v6 w6 o6 g6 => hK _ _ ?_
            clear hK K
            obtain ⟨A6, c6, rfl, _⟩ := o6.isB
            have hn6 : (L' ++ [255] ++ q).length = L'.length + 255 := by simp [hql]
            obtain ⟨hv5, hv6, hr6, hk6, hb6⟩ := Boxed.appended0 (W := W5.drew) hv2 (by decide) o5 tB2.size z1 o6 g6
            have hc5 := hv5.cell
            have hf5 := hv5.frozen
            dsimp only [Act.put]
            refine wpAnyIn_ready (rs := [4]) (by kernel_rfl) (by simp) ?_
            refine AllReadyIn.cons rfl (fun K hK => ?_) AllReadyIn.nil
            go_simp
            refine hK _ _ ?_; clear hK K
            refine wpAnyIn_done (by kernel_rfl) ?_ _
            have hKO7 := (hKO2.trans (KeepsOthers.drew W5)).trans hk6
            have hBW7 : Below w.heap.size W _ := (Below.drew hBW2).trans hb6
            have tB7 : Below w.heap.size w _ := (Below.drew tB2).trans hb6
            rw [hn6] at hv6 hr6 hKO7 hBW7 tB7
            clear hv5 hc5 hf5 hk6 hb6 g6 hv2 hr2 hc3 hf3 o5 o6 hqb hKO2 hBW2 tB2
            generalize w6.setCell _ _ = W7 at *
            gi_wp2_with (refine cutBEIn _ rfl (.tmp 26) (.const (.int .i64 254)) rfl (some ⟨pb, po, none⟩) p'.length c' rfl (.inr ⟨_, _, rfl⟩) 254 rfl d4 hpc' ?_; intro X hX hFX; have HX := Lib.hid hX; clear hX hFX)
            refine ⟨⟨X, c' - 254, p'.drop 254, L' ++ [255] ++ q, _, by rw [List.length_drop], by rw [List.length_drop]; omega, by rw [List.length_drop]; omega, HX.out w p' hpb' hpc', hv6, (by unfold OwnB; rw [hn6]; exact hr6), tB7, Hfin, hKO7, hBW7⟩, ?_⟩
            show p'.length - 254 < p'.length
            omega
          · go_simp
            refine hK _ _ ?_; clear hK K
            refine wpAnyIn_ready (rs := [0]) (by kernel_rfl) (by simp) ?_
            refine AllReadyIn.cons rfl (fun K hK => ?_) AllReadyIn.nil
            go_simp
            refine hK _ _ ?_; clear hK K
            refine wpAnyIn_ready (rs := [3]) (by kernel_rfl) (by simp) ?_
            refine AllReadyIn.cons rfl (fun K hK => ?_) AllReadyIn.nil
            rw [if_pos (by kernel_rfl)]
            refine operAll _ (.tmp 22) (.tmp 24) rfl w.heap.size (.slice (some ⟨g2, 0, none⟩) (L'.length + 1) c2) (L' ++ [255]) rfl o5 (some ⟨pb, po, none⟩) c' q (congrArg (fun n => Value.slice (some ⟨pb, po, none⟩) n c') hql.symm) hqb (by have := HLl.out; simp; omega) tB2.size fun v6 w6 o6 g6 => hK _ _ ?_
            clear hK K
            obtain ⟨A6, c6, rfl, _⟩ := o6.isB
            have hn6 : (L' ++ [255] ++ q).length = L'.length + 255 := by simp [hql]
            obtain ⟨hv5, hv6, hr6, hk6, hb6⟩ := Boxed.appended0 (W := W5.drew) hv2 (by decide) o5 tB2.size z1 o6 g6
            have hc5 := hv5.cell
            have hf5 := hv5.frozen
            dsimp only [Act.put]
            refine wpAnyIn_ready (rs := [4]) (by kernel_rfl) (by simp) ?_
            refine AllReadyIn.cons rfl (fun K hK => ?_) AllReadyIn.nil
            go_simp
            refine hK _ _ ?_; clear hK K
            refine wpAnyIn_done (by kernel_rfl) ?_ _
            have hKO7 := (hKO2.trans (KeepsOthers.drew W5)).trans hk6
            have hBW7 : Below w.heap.size W _ := (Below.drew hBW2).trans hb6
            have tB7 : Below w.heap.size w _ := (Below.drew tB2).trans hb6
            rw [hn6] at hv6 hr6 hKO7 hBW7 tB7
            clear hv5 hc5 hf5 hk6 hb6 g6 hv2 hr2 hc3 hf3 o5 o6 hqb hKO2 hBW2 tB2
            generalize w6.setCell _ _ = W7 at *
            gi_wp2_with (refine cutBEIn _ rfl (.tmp 26) (.const (.int .i64 254)) rfl (some ⟨pb, po, none⟩) p'.length c' rfl (.inr ⟨_, _, rfl⟩) 254 rfl d4 hpc' ?_; intro X hX hFX; have HX := Lib.hid hX; clear hX hFX)
            refine ⟨⟨X, c' - 254, p'.drop 254, L' ++ [255] ++ q, _, by rw [List.length_drop], by rw [List.length_drop]; omega, by rw [List.length_drop]; omega, HX.out w p' hpb' hpc', hv6, (by unfold OwnB; rw [hn6]; exact hr6), tB7, Hfin, hKO7, hBW7⟩, ?_⟩
            show p'.length - 254 < p'.length
            omega
      · have d1 : decide ((254 : Int) ≤ p'.length) = false := by simp; omega
        have d2 : decide (254 ≤ p'.length) = false := by simp; omega
        have d3 : ¬ (254 : Int) ≤ p'.length := by omega
        have d4 : p'.length < 254 := by omega
        have d5 : (p'.length : Int) < 254 := by omega
        obtain ⟨z, hz0⟩ : ∃ z : UInt8, z = UInt8.ofNat (p'.length + 1) := ⟨_, rfl⟩
        have hz1 : IntKind.i64.wrap ((p'.length : Int) + 1) = (p'.length : Int) + 1 := by rw [IntKind.wrap_i64]; omega
        have hz2 : IntKind.u8.wrap ((p'.length : Int) + 1) = (z.toNat : Int) := by
          have : z.toNat = p'.length + 1 := by rw [hz0, UInt8.toNat_ofNat']; omega
          rw [this, IntKind.wrap_u8]; omega
        have hfin : R = (L' ++ [z]) ++ p' := by rw [HR'.out, partE_short (by omega), hz0]; simp
        have Hfin := Lib.hid hfin
        have HLl := Lib.hid hLl
        have hzs : (L' ++ [z]).length = L'.length + 1 := by simp
        have Hzs := Lib.hid hzs
        clear hfin hLl hz0 hzs
        gi_wp2_with (first
          | (gi_at_builtin; refine wpListIn_append_own _ rfl (.tmp 28) (.tmp 33) 22 rfl w.heap.size 5 i (.int .u8 0) 1 1 Try.underlying22 hi hz hsz hby rfl (by decide) _ _ (L'.map bv) rfl (hown'.alloc _) ⟨wr.heap.size, 0, none⟩ 1 1 [bv z] rfl rfl (cell_one_new _ _ _) (by simp [Value.oneCell', bv]) (by have := HLl.out; unfold maxLen; omega) (by have := HLl.out; omega) (by have := tB.size; simp; omega) ?_; intro v2 w2 hown2 hgrow2 _; obtain ⟨g2, c2, rfl⟩ := ownsRow_succ hown2; obtain ⟨hv1, hv2, hr2, hk2, hb2⟩ := hv'.appended (by decide) hown' tB.size z1 hown2 hgrow2; have hc1 := hv1.cell; have hf1 := hv1.frozen; have hc3 := hv2.cell; have hf3 := hv2.frozen)
          | (gi_at_builtin; refine appAllIn _ rfl (.tmp 35) (.tmp 36) rfl w.heap.size _ (L' ++ [z]) rfl (by unfold OwnB; rw [Hzs.out, List.map_append]; exact hr2) A' c' p' rfl (hpb'.below (tB.trans hb2)) (by have := HLl.out; rw [Hzs.out]; omega) (tB.trans hb2).size ?_; intro v6 w6 o6 g6; obtain ⟨hv5, hv6, hr6, hk6, hb6⟩ := Boxed.appended0 hv2 (by decide) (by unfold OwnB at *; exact hr2) (tB.trans hb2).size z1 o6 g6; have hc5 := hv5.cell; have hf5 := hv5.frozen; obtain ⟨A6, c6, rfl, _⟩ := o6.isB))
        have hE := (outP_snoc pre (Subtype.mk (PA, pc, p) ⟨hpb, hpc, hpn⟩)).trans (HR.out.symm.trans Hfin.out)
        have hn6 : (L' ++ [z] ++ p').length = L'.length + (p'.length + 1) := by simp
        rw [hn6] at hv6 hr6 hk6 hb6
        exact ⟨((hKO.trans hk2).trans hk6).from _, (hBW.trans hb2).trans hb6, ⟨_, hv6, by rw [hE, hn6]; exact hr6⟩, (tB.trans hb2).trans hb6⟩
  case done =>
    rintro D ys W hD hys ⟨⟨v, hv, hrow, _⟩, hB⟩ hK
    have hcv := hv.cell
    have hE : outP ys = encL l := by unfold outP; rw [hys]; rfl
    rw [hE] at hrow
    have hRl : (encL l).length ≤ 200001 := by have := encL_len l; have := Hn.out; omega
    have HRl := Lib.hid hRl
    obtain ⟨V1, V2, rfl, _⟩ := OwnB.isB (show OwnB W w.heap.size v (encL l) from hrow)
    have hcv := hv.cell
    have HS := Lib.hid hys
    clear hE hRl hys o1 g1 bO bN hB0 oO hB1 hl hc e1 e2 e3 e4 e5
    gi_wp2_with (gi_at_builtin; refine wpListIn_append_own _ rfl (.tmp 38) (.tmp 39) 22 rfl w.heap.size 5 i (.int .u8 0) 1 1 Try.underlying22 hi hz hsz hby rfl (by decide) _ _ ((encL l).map bv) rfl (hrow.alloc _) ⟨W.heap.size, 0, none⟩ 1 1 [bv 0] rfl rfl (cell_one_new _ _ _) (by simp [Value.oneCell', bv]) (by have := HRl.out; unfold maxLen; omega) (by have := HRl.out; omega) (by have := hB.size; simp; omega) ?_; intro v2 w2 hown2 hgrow2 _; obtain ⟨g2, c2, rfl⟩ := ownsRow_succ hown2)
    obtain ⟨hk, hb⟩ := own_keeps hrow hB.size hgrow2
    have hK2 := hk.same D _ hK rfl
    refine ⟨by simp, .inl ⟨_, _, rfl, run_takeDeferred hK2, ?_⟩⟩
    exact ⟨_, results_tmp rfl _ _ _, some ⟨g2, 0, none⟩, _, c2, rfl, by unfold wrapL; simp, by unfold OwnB wrapL; rw [List.length_append, List.map_append]; exact ownsRow_putObj hown2 _ hK2 rfl, (hB.trans hb).trans (belowK_b (w := w) (Nat.le_refl _) w2 D _ _ (by simp at hD; omega) hK2 rfl rfl)⟩
  case stop =>
    rintro D c pre W _ _ h _
    exact h.elim

end Go.Proofs.Ytipbkfjmblkolaa
