/- Layer 23: the document's Sound; Has, of both; Same; lent. -/
import Derived.Test.YtfbnobhecfgahaaSp1
set_option linter.unusedSimpArgs false
set_option linter.unusedVariables false
namespace Go.Proofs.Ytfbnobhecfgahaa
open Go.RowKit
set_option maxRecDepth 100000

set_option maxHeartbeats 2000000 in
theorem rsound_any (V : Option Addr) (c : Nat) (l : List Sp) (w : World) (hV : Ps w V l) (hi : InL l) (hl : l.length ≤ 1000000) :
    Calls Try.prog 20 #[.slice V l.length c] w fun e w' => e = .returned (.bool (sndB l)) ∧ Below w.heap.size w w' := by
  obtain ⟨R, hR⟩ : ∃ R, R = sndB l := ⟨_, rfl⟩
  rw [← hR]
  have HR := Lib.hid hR
  have HV := Lib.hid hV
  have HI := Lib.hid hi
  clear hR hV hi
  go_enter Try.func20, Try.ntmps20
  go_wp2_with fail
  go_loopw [3] (fun s7 wr => ∃ k : Nat, k ≤ l.length ∧ s7 = .int .i64 k ∧ Hid (Snd (l.take k)) ∧ Hid (Below w.heap.size w wr))
    (fun s7 _ => l.length - (intOf s7).toNat)
  case atStart => exact ⟨0, Nat.zero_le _, rfl, Lib.hid Snd.nil, Lib.hid (Below.refl _ _)⟩
  case round =>
    obtain ⟨k, hk, rfl, HS, HB⟩ := hrel
    have hsz := HB.out.size
    by_cases hlt : k < l.length
    · obtain ⟨p, o, rfl, hc⟩ := ps_at HV.out k l[k] (List.getElem?_eq_getElem hlt)
      have hs := snd_snoc (List.getElem?_eq_getElem hlt)
      have hin := HI.out l[k] (List.getElem_mem hlt)
      obtain ⟨x, hx⟩ : ∃ x, x = l[k] := ⟨_, rfl⟩
      rw [← hx] at hc hs hin
      obtain ⟨xf, xt⟩ := x
      dsimp only at hc hs hin
      have C := hc wr HB.out
      clear hc hx
      have hbad : ¬ Snd (l.take (k + 1)) → R = false := fun h => HR.out.trans (sndB_bad h)
      by_cases hft : xt < xf
      · have Hb := Lib.hid (hbad (fun h => by have := (hs.1 h).2.1; omega))
        have hd : decide (xt < xf) = true := decide_eq_true hft
        clear hs hbad hft hin
        go_wp2_with fail
        go_quiet (fail)
        go_wp2_with fail
        go_ret
        exact ⟨by rw [Hb.out]; rfl, below_drewN HB.out nq⟩
      · have hd : decide (xt < xf) = false := decide_eq_false hft
        by_cases hk0 : k = 0
        · subst hk0
          have HS2 := Lib.hid (show Snd (l.take (0 + 1)) from hs.2 ⟨HS.out, by omega, fun h => absurd h (by omega)⟩)
          clear hs hbad hft hin
          simp only [Nat.zero_mul, Nat.add_zero] at C
          go_wp2_with fail
          go_quiet (fail)
          go_wp2_with fail
          go_quiet (fail)
          go_wp2_with fail
          go_roundw
          case measure => simp [intOf]; omega
          case rel => exact ⟨1, by omega, by go_num, HS2, Lib.hid (below_drewN HB.out _)⟩
        · obtain ⟨j, rfl⟩ : ∃ j, k = j + 1 := ⟨k - 1, by omega⟩
          obtain ⟨p', o', hV', hc'⟩ := ps_at HV.out j l[j] (List.getElem?_eq_getElem (by omega))
          injection hV' with e1
          injection e1 with e1 e2 _
          subst e1; subst e2
          have hiny := HI.out l[j] (List.getElem_mem (by omega))
          have hs2 : Snd (l.take (j + 1 + 1)) ↔ Snd (l.take (j + 1)) ∧ xf ≤ xt ∧ l[j].2 + 1 < xf := by
            rw [hs]
            constructor
            · rintro ⟨h1, h2, h3⟩
              exact ⟨h1, h2, h3 (by omega) _ (List.getElem?_eq_getElem (by omega))⟩
            · rintro ⟨h1, h2, h3⟩
              refine ⟨h1, h2, fun _ y hy => ?_⟩
              rw [show j + 1 - 1 = j by omega, List.getElem?_eq_getElem (by omega)] at hy
              injection hy with hy
              rw [← hy]; exact h3
          obtain ⟨y, hy⟩ : ∃ y, y = l[j] := ⟨_, rfl⟩
          rw [← hy] at hc' hiny hs2
          obtain ⟨yf, yt⟩ := y
          dsimp only at hc' hiny hs2
          have C' := hc' wr HB.out
          have hpw : p < wr.heap.size := cell_lt C'.1
          clear hc' hy hs
          have hw2 : IntKind.i64.wrap (j : Int) = j := by rw [IntKind.wrap_i64]; omega
          have hj0 : decide ((0 : Int) < (j : Int) + 1) = true := decide_eq_true (by omega)
          have hj1 : (j : Int) < l.length := by omega
          have hj2 : 0 ≤ (j : Int) := by omega
          have hj3 : j < l.length := by omega
          unfold In at hin hiny
          by_cases hle : xf ≤ yt
          · have Hb := Lib.hid (hbad (fun h => by have := (hs2.1 h).2.2; omega))
            have hd2 : decide (xf ≤ yt) = true := decide_eq_true hle
            clear hs2 hbad hle hft hin hiny
            go_wp2_with fail
            go_quiet (fail)
            go_wp2_with fail
            go_quiet (fail)
            go_wp2_with fail
            go_ret
            first | exact ⟨by rw [Hb.out]; rfl, below_drewN HB.out _⟩ | exact ⟨by rw [Hb.out]; rfl, below_drewN (below_drewN HB.out _) _⟩
          · have hd2 : decide (xf ≤ yt) = false := decide_eq_false hle
            have hw3 : IntKind.i64.wrap (yt + 1) = yt + 1 := by rw [IntKind.wrap_i64]; omega
            by_cases heq : xf = yt + 1
            · have Hb := Lib.hid (hbad (fun h => by have := (hs2.1 h).2.2; omega))
              have hd3 : (xf == yt + 1) = true := beq_iff_eq.2 heq
              clear hs2 hbad hle hft hin hiny heq
              go_wp2_with fail
              go_quiet (fail)
              go_wp2_with fail
              go_quiet (fail)
              go_wp2_with fail
              go_ret
              first | exact ⟨by rw [Hb.out]; rfl, below_drewN HB.out _⟩ | exact ⟨by rw [Hb.out]; rfl, below_drewN (below_drewN HB.out _) _⟩
            · have hd3 : (xf == yt + 1) = false := beq_eq_false_iff_ne.2 heq
              have HS2 := Lib.hid (hs2.2 ⟨HS.out, by omega, by omega⟩)
              clear hs2 hbad hle hft hin hiny heq
              go_wp2_with fail
              go_quiet (fail)
              go_wp2_with fail
              go_quiet (fail)
              go_wp2_with fail
              go_roundw
              case measure => simp [intOf]; omega
              case rel => exact ⟨j + 1 + 1, by omega, by go_num, HS2, Lib.hid (below_drewN HB.out _)⟩
    · obtain rfl : k = l.length := by omega
      have hS := HS.out
      rw [List.take_length] at hS
      have Hr1 := Lib.hid (show R = true by rw [HR.out]; exact decide_eq_true hS)
      clear hS
      go_wp2_with fail
      go_ret
      exact ⟨by rw [Hr1.out]; rfl, HB.out⟩

/-- is a time in one span? -/
def inB (t : Int) (x : Sp) : Bool := decide (x.1 ≤ t) && decide (t ≤ x.2)
theorem hasB_any (l : List Sp) (t : Int) : hasB l t = l.any (inB t) := by
  unfold hasB inB
  rw [Bool.eq_iff_iff, decide_eq_true_iff, List.any_eq_true]
  unfold Mem
  simp only [Bool.and_eq_true, decide_eq_true_eq]
theorem has1_any (q : Nat) (t xf xt : Int) (w : World) (h : Blk w q 2 #[.int .i64 t]) :
    Calls Try.prog 34 #[.agg #[.int .i64 xf, .int .i64 xt], .pointer (some ⟨q, 0, none⟩)] w fun e w' => e = .returned (.bool (inB t (xf, xt))) ∧ Below w.heap.size w w' := by
  have K := ((Qs.zero w).cons (k := qB _ _ _) h).box #[.int .i64 xf, .int .i64 xt] 24
  have HK := Lib.hid K
  have C := K.says
  simp only [sayAll, cellsSay, qB, qW, Nat.reduceAdd, and_true, true_and] at C
  clear K h
  obtain ⟨a, ha⟩ : ∃ a, decide (xf ≤ t) = a := ⟨_, rfl⟩
  obtain ⟨b, hb⟩ : ∃ b, decide (t ≤ xt) = b := ⟨_, rfl⟩
  have hr : inB t (xf, xt) = (a && b) := by unfold inB; rw [ha, hb]
  rw [hr]
  clear hr
  cases a
  · go_enter Try.func34, Try.ntmps34
    go_wp2_with fail
    go_ret
    exact ⟨rfl, HK.out.top 2⟩
  · go_enter Try.func34, Try.ntmps34
    go_wp2_with fail
    go_ret
    exact ⟨by simp, HK.out.top 2⟩

theorem any_take {l : List Sp} {f : Sp → Bool} {k : Nat} {x : Sp} (hx : l[k]? = some x) : (l.take (k + 1)).any f = ((l.take k).any f || f x) := by
  obtain ⟨hj, hx⟩ := List.getElem?_eq_some_iff.1 hx
  rw [List.take_succ_eq_append_getElem hj, List.any_append, hx]
  simp
theorem any_here {l : List Sp} {f : Sp → Bool} {k : Nat} {x : Sp} (hx : l[k]? = some x) (h : f x = true) : l.any f = true := List.any_eq_true.2 ⟨x, List.mem_of_getElem? hx, h⟩

/-- slices.IndexFunc, as Has uses it: is there one? -/
theorem sidx_any (q : Nat) (t : Int) (V : Option Addr) (c : Nat) (l : List Sp) (w : World) (hq : Blk w q 2 #[.int .i64 t]) (hV : Ps w V l) (hl : l.length ≤ 1000000) :
    Calls Try.prog 37 #[.slice V l.length c, .func (.func 34) #[] #[.pointer (some ⟨q, 0, none⟩)]] w fun e w' => (∃ n : Int, e = .returned (.int .i64 n) ∧ decide (0 ≤ n) = hasB l t) ∧ Below w.heap.size w w' := by
  obtain ⟨R, hR⟩ : ∃ R, R = hasB l t := ⟨_, rfl⟩
  rw [← hR]
  rw [hasB_any] at hR
  have HR := Lib.hid hR
  have HV := Lib.hid hV
  have HK := Lib.hid ((Qs.zero w).cons (k := qB _ _ _) hq)
  clear hR hV hq
  go_enter Try.func37, Try.ntmps37
  go_wp2_with fail
  go_loopw [8] (fun s8 wr => ∃ k : Nat, k ≤ l.length ∧ s8 = .int .i64 k ∧ Hid ((l.take k).any (inB t) = false) ∧ Hid (Qs wr [qB q 2 #[.int .i64 t], qW w w.heap.size (Nat.le_refl _)]))
    (fun s8 _ => l.length - (intOf s8).toNat)
  case atStart => exact ⟨0, Nat.zero_le _, rfl, Lib.hid rfl, HK⟩
  case round =>
    obtain ⟨k, hk, rfl, HS, HQ⟩ := hrel
    by_cases hlt : k < l.length
    · obtain ⟨p, o, rfl, hc⟩ := ps_at HV.out k l[k] (List.getElem?_eq_getElem hlt)
      have hst := any_take (f := inB t) (List.getElem?_eq_getElem hlt)
      have hhe := any_here (f := inB t) (List.getElem?_eq_getElem hlt)
      rw [HS.out, Bool.false_or] at hst
      obtain ⟨x, hx⟩ : ∃ x, x = l[k] := ⟨_, rfl⟩
      rw [← hx] at hc hst hhe
      obtain ⟨xf, xt⟩ := x
      dsimp only at hc
      have C := hc wr (HQ.out.top 1)
      have hH := fun W h => has1_any q t xf xt W h
      clear hc hx
      cases hb : inB t (xf, xt)
      · rw [hb] at hst hH
        have Hst := Lib.hid hst
        have HH := Lib.hid hH
        clear hst hH hhe hb
        go_wp2_with fail
        refine (HH.out _ (HQ.out.blk 0)).mono ?_
        rintro e w1 ⟨rfl, b1⟩
        have HQ1 := Lib.hid (HQ.out.go b1)
        clear b1 C
        go_wp2_with fail
        go_roundw
        case measure => simp [intOf]; omega
        case rel => exact ⟨k + 1, by omega, by go_num, Hst, HQ1⟩
      · rw [hb] at hH
        have HH := Lib.hid hH
        have Hr := Lib.hid (show R = true by rw [HR.out]; exact hhe hb)
        clear hst hH hhe hb
        go_wp2_with fail
        refine (HH.out _ (HQ.out.blk 0)).mono ?_
        rintro e w1 ⟨rfl, b1⟩
        have HQ1 := Lib.hid (HQ.out.go b1)
        clear b1 C
        go_wp2_with fail
        go_ret
        exact ⟨⟨k, rfl, by rw [Hr.out]; exact decide_eq_true (by omega)⟩, HQ1.out.top 1⟩
    · obtain rfl : k = l.length := by omega
      have hS := HS.out
      rw [List.take_length] at hS
      have Hr := Lib.hid (show R = false by rw [HR.out]; exact hS)
      clear hS
      go_wp2_with fail
      go_ret
      exact ⟨⟨-1, rfl, by rw [Hr.out]; rfl⟩, HQ.out.top 1⟩

theorem has_any (t : Int) (V : Option Addr) (c : Nat) (l : List Sp) (w : World) (hV : Ps w V l) (hl : l.length ≤ 1000000) :
    Calls Try.prog 21 #[.slice V l.length c, .int .i64 t] w fun e w' => e = .returned (.bool (hasB l t)) ∧ Below w.heap.size w w' := by
  have hC : ∀ W : World, Blk W w.heap.size 2 #[.int .i64 t] → Below w.heap.size w W → Calls Try.prog 33 #[.slice V l.length c, .func (.func 34) #[] #[.pointer (some ⟨w.heap.size, 0, none⟩)]] W fun e w' => e = .returned (.bool (hasB l t)) ∧ Below W.heap.size W w' := by
    intro W hB hb
    have HI := Lib.hid (sidx_any w.heap.size t V c l W hB (hV.below hb (Nat.le_refl _)) hl)
    clear hV hB hb
    go_enter Try.func33, Try.ntmps33
    go_wp2_with fail
    refine HI.out.mono ?_
    rintro e w1 ⟨⟨n, rfl, hn⟩, b1⟩
    have H := Lib.hid (And.intro hn b1)
    clear hn b1
    go_wp2_with fail
    go_ret
    exact ⟨by rw [← H.out.1]; rfl, H.out.2⟩
  have HC := Lib.hid (hC _ (Blk.new w _ _) (below_alloc w _))
  clear hC hV
  go_enter Try.func21, Try.ntmps21
  go_wp2_with fail
  refine HC.out.mono ?_
  rintro e w1 ⟨rfl, b1⟩
  have H := Lib.hid ((below_alloc w (.cells #[.int .i64 t] 2)).trans (b1.mono (by simp)))
  clear b1
  go_wp2_with fail
  go_ret
  exact ⟨rfl, H.out⟩

theorem rhas_any (t : Int) (V : Option Addr) (c : Nat) (l : List Sp) (w : World) (hV : Ps w V l) (hl : l.length ≤ 1000000) :
    Calls Try.prog 22 #[.slice V l.length c, .int .i64 t] w fun e w' => e = .returned (.bool (hasB l t)) ∧ Below w.heap.size w w' := by
  obtain ⟨R, hR⟩ : ∃ R, R = hasB l t := ⟨_, rfl⟩
  rw [← hR]
  rw [hasB_any] at hR
  have HR := Lib.hid hR
  have HV := Lib.hid hV
  clear hR hV
  go_enter Try.func22, Try.ntmps22
  go_wp2_with fail
  go_loopw [5] (fun s8 wr => ∃ k : Nat, k ≤ l.length ∧ s8 = .int .i64 k ∧ Hid ((l.take k).any (inB t) = false) ∧ Hid (Below w.heap.size w wr))
    (fun s8 _ => l.length - (intOf s8).toNat)
  case atStart => exact ⟨0, Nat.zero_le _, rfl, Lib.hid rfl, Lib.hid (Below.refl _ _)⟩
  case round =>
    obtain ⟨k, hk, rfl, HS, HB⟩ := hrel
    by_cases hlt : k < l.length
    · obtain ⟨p, o, rfl, hc⟩ := ps_at HV.out k l[k] (List.getElem?_eq_getElem hlt)
      have hst := any_take (f := inB t) (List.getElem?_eq_getElem hlt)
      have hhe := any_here (f := inB t) (List.getElem?_eq_getElem hlt)
      rw [HS.out, Bool.false_or] at hst
      obtain ⟨x, hx⟩ : ∃ x, x = l[k] := ⟨_, rfl⟩
      rw [← hx] at hc hst hhe
      obtain ⟨xf, xt⟩ := x
      dsimp only at hc
      have C := hc wr HB.out
      clear hc hx
      obtain ⟨a, ha⟩ : ∃ a, decide (xf ≤ t) = a := ⟨_, rfl⟩
      obtain ⟨b, hb⟩ : ∃ b, decide (t ≤ xt) = b := ⟨_, rfl⟩
      have hr : inB t (xf, xt) = (a && b) := by unfold inB; rw [ha, hb]
      rw [hr] at hst hhe
      cases a
      · have Hst := Lib.hid hst
        clear hst hhe hr
        go_wp2_with fail
        go_roundw
        case measure => simp [intOf]; omega
        case rel => exact ⟨k + 1, by omega, by go_num, by simpa using Hst, HB⟩
      · cases b
        · have Hst := Lib.hid hst
          clear hst hhe hr
          go_wp2_with fail
          go_roundw
          case measure => simp [intOf]; omega
          case rel => exact ⟨k + 1, by omega, by go_num, by simpa using Hst, HB⟩
        · have Hr := Lib.hid (show R = true by rw [HR.out]; exact hhe rfl)
          clear hst hhe hr
          go_wp2_with fail
          go_ret
          exact ⟨by rw [Hr.out]; rfl, HB.out⟩
    · obtain rfl : k = l.length := by omega
      have hS := HS.out
      rw [List.take_length] at hS
      have Hr := Lib.hid (show R = false by rw [HR.out]; exact hS)
      clear hS
      go_wp2_with fail
      go_ret
      exact ⟨by rw [Hr.out]; rfl, HB.out⟩

theorem eqInS_run (a b : Sp) (w : World) : (Op.equalIn 10000 24 (.agg (encS a).toArray) (.agg (encS b).toArray)).run Try.prog w = .ok (decide (a = b)) w := by
  have u1 := Try.underlying2
  have hS : Try.prog.underlying 24 = some (.struct (Try.prog.fieldsOf 24)) := by kernel_rfl
  have hp : Try.prog.stoodInHeld 24 = false := by kernel_rfl
  obtain ⟨a1, a2⟩ := a
  obtain ⟨b1, b2⟩ := b
  simp only [encS]
  rw [show (10000 : Nat) = 9999 + 1 from rfl, run_equalIn_agg w 9999 24 _ _ hS hp]
  simp only [Program.fieldsOf, Try.underlying24]
  go_simp
  by_cases h : a1 = b1
  rotate_left
  · simp [h]
  subst h
  by_cases h : a2 = b2 <;> simp [h]
theorem eqS_run (a b : Sp) (w : World) : (binOp .eql 24 (.agg (encS a).toArray) (.agg (encS b).toArray)).run Try.prog w = .ok (.bool (decide (a = b))) w := by
  rw [run_eql_struct, eqInS_run]; rfl
theorem neqS_run (a b : Sp) (w : World) : (binOp .neq 24 (.agg (encS a).toArray) (.agg (encS b).toArray)).run Try.prog w = .ok (.bool (!decide (a = b))) w := by
  rw [run_neq_struct, eqInS_run]; rfl

theorem ssame_any (A B : Option Addr) (c d : Nat) (a b : List Sp) (w : World) (ha : Ps w A a) (hb : Ps w B b) (hal : a.length ≤ 1000000) (hbl : b.length ≤ 1000000) :
    Calls Try.prog 15 #[.slice A a.length c, .slice B b.length d] w fun e w' => e = .returned (.bool (decide (a = b))) ∧ Below w.heap.size w w' := by
  obtain ⟨r, hr⟩ : ∃ r, r = decide (a = b) := ⟨_, rfl⟩
  rw [← hr]
  have HR := Lib.hid hr
  clear hr
  by_cases hlen : a.length = b.length
  · have HL := Lib.hid hlen
    have HV := Lib.hid ha
    have HU := Lib.hid hb
    rw [← hlen]
    clear hlen ha hb hbl
    go_enter Try.func15, Try.ntmps15
    go_wp2_with fail
    go_loopw [5] (fun i wr => ∃ k : Nat, k ≤ a.length ∧ i = .int .i64 k ∧ Hid (a.take k = b.take k) ∧ Hid (Below w.heap.size w wr))
      (fun i _ => a.length - (intOf i).toNat)
    case atStart => exact ⟨0, Nat.zero_le _, rfl, Lib.hid rfl, Lib.hid (Below.refl _ _)⟩
    case round =>
      obtain ⟨k, hk, rfl, HE, HB⟩ := hrel
      rcases Nat.lt_or_ge k a.length with hlt | hge
      · have hltb : k < b.length := by have := HL.out; omega
        obtain ⟨p, o, rfl, hc⟩ := ps_at HV.out k a[k] (List.getElem?_eq_getElem hlt)
        obtain ⟨q, o', rfl, hd⟩ := ps_at HU.out k b[k] (List.getElem?_eq_getElem hltb)
        obtain ⟨x, hx⟩ : ∃ x, a[k] = x := ⟨_, rfl⟩
        obtain ⟨y, hy⟩ : ∃ y, b[k] = y := ⟨_, rfl⟩
        rw [hx] at hc
        rw [hy] at hd
        have hN := fun w => neqS_run x y w
        have HX := Lib.hid hx
        have HY := Lib.hid hy
        have C := hc wr HB.out
        have D := hd wr HB.out
        clear hc hd hx hy
        by_cases he : x = y
        · rw [decide_eq_true he] at hN
          have hE2 : a.take (k + 1) = b.take (k + 1) := by
            rw [List.take_succ_eq_append_getElem hlt, List.take_succ_eq_append_getElem hltb, HE.out, HX.out, HY.out, he]
          have HE2 := Lib.hid hE2
          clear hE2 he
          obtain ⟨xf, xt⟩ := x
          obtain ⟨yf, yt⟩ := y
          simp only [encS, Bool.not_true] at hN
          dsimp only at C D
          go_wp2_with fail
          go_quiet (fail)
          go_wp2_with fail
          go_roundw
          case measure => simp [intOf]; omega
          case rel => exact ⟨k + 1, by omega, by go_num, HE2, Lib.hid (below_drewN HB.out nq)⟩
        · rw [decide_eq_false he] at hN
          have hr0 : Hid (r = false) := Lib.hid (by
            rw [HR.out]
            refine decide_eq_false fun e => he ?_
            subst e
            exact HX.out.symm.trans HY.out)
          clear he
          obtain ⟨xf, xt⟩ := x
          obtain ⟨yf, yt⟩ := y
          simp only [encS, Bool.not_false] at hN
          dsimp only at C D
          go_wp2_with fail
          go_quiet (fail)
          go_wp2_with fail
          go_ret
          exact ⟨by rw [hr0.out]; rfl, below_drewN HB.out nq⟩
      · obtain rfl : k = a.length := by omega
        have hr1 : Hid (r = true) := Lib.hid (by
          rw [HR.out]
          refine decide_eq_true ?_
          have h1 := HE.out
          rw [List.take_length, HL.out, List.take_length] at h1
          exact h1)
        go_wp2_with fail
        go_ret
        exact ⟨by rw [hr1.out]; rfl, HB.out⟩
  · have hd : ((a.length : Int) != (b.length : Int)) = true := by simp; omega
    have hr0 : Hid (r = false) := Lib.hid (by rw [HR.out]; exact decide_eq_false fun e => hlen (by rw [e]))
    clear hlen ha hb
    go_enter Try.func15, Try.ntmps15
    go_wp2_with fail
    go_ret
    exact ⟨by rw [hr0.out]; rfl, Below.refl _ _⟩

/-- spans that the call has made: a slice of a result -/
def OutS (base : Nat) (l : List Sp) (w' : World) (v : Value) : Prop := ∃ A c, v = .slice A l.length c ∧ OwnR w' base 24 encS 2 (.slice A l.length c) l
theorem OwnR.ps {w : World} {base n c : Nat} {A : Option Addr} {l : List Sp} (h : OwnR w base 24 encS 2 (.slice A n c) l) : Ps w A l := by
  obtain ⟨A', c', hv, -, hr⟩ := OwnR.row Try.eltS h
  injection hv with e1 _ _
  subst e1; exact hr
theorem slent_any (V : Option Addr) (c : Nat) (l : List Sp) (w : World) (hV : Ps w V l) (hl : l.length ≤ 1000000) :
    Calls Try.prog 16 #[.slice V l.length c] w fun e w' => ∃ A c', e = .returned (.slice A l.length c') ∧ OwnR w' w.heap.size 24 encS 2 (.slice A l.length c') l ∧ Below w.heap.size w w' := by
  have HV := Lib.hid hV
  clear hV
  go_enter Try.func16, Try.ntmps16
  go_wp2_with (at_builtin; go_must (refine appR Try.eltS _ rfl (.tmp 4) (.tmp 5) rfl w.heap.size _ [] rfl (OwnR.nil _ _ _ _ _) V c l rfl HV.out (by unfold maxLen; simp; omega) (by simp; omega) (Nat.le_refl _) ?_); intro A2 c2 w2 hown2 hb2)
  go_ret
  simp only [List.length_nil, Nat.zero_add, List.nil_append] at hown2 ⊢
  exact ⟨A2, c2, rfl, hown2, hb2⟩

end Go.Proofs.Ytfbnobhecfgahaa
