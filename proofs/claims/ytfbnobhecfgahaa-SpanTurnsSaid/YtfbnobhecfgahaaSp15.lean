/- Layer 23: the statements' helpers: set. -/
import Derived.Test.YtfbnobhecfgahaaSp9
import Derived.Test.YtfbnobhecfgahaaSp12
import Derived.Test.YtfbnobhecfgahaaFrs
set_option linter.unusedSimpArgs false
set_option linter.unusedVariables false
namespace Go.Proofs.Ytfbnobhecfgahaa
open Go.RowKit
set_option maxRecDepth 100000

/-- what set gives -/
structure SetR (l X : List Sp) : Prop where
  snd : Snd X
  mem : ∀ t, Mem t X ↔ ∃ s ∈ l, min s.1 s.2 ≤ t ∧ t ≤ max s.1 s.2
  inl : InL X
  len : X.length ≤ l.length
theorem SetR.nil : SetR [] [] := ⟨Snd.nil, fun t => by simp [mem_nil], (fun _ h => by cases h), Nat.le_refl _⟩
theorem SetR.uniq {l l' X X' : List Sp} (h : SetR l X) (h' : SetR l' X') (e : ∀ s, s ∈ l ↔ s ∈ l') : X = X' := snd_uniq h.snd h'.snd fun t => by
  rw [h.mem, h'.mem]
  constructor
  · rintro ⟨s, hs, h⟩; exact ⟨s, (e s).1 hs, h⟩
  · rintro ⟨s, hs, h⟩; exact ⟨s, (e s).2 hs, h⟩
theorem SetR.step {l X R : List Sp} {k : Nat} {s : Sp} {lo hi : Int} (h : SetR (l.take k) X) (hs : l[k]? = some s) (hR : AddR X (lo, hi) R) (e1 : lo = min s.1 s.2) (e2 : hi = max s.1 s.2) : SetR (l.take (k + 1)) R := by
  subst e1 e2
  obtain ⟨hk, hse⟩ := List.getElem?_eq_some_iff.1 hs
  refine ⟨hR.snd, fun t => ?_, hR.inl, ?_⟩
  · rw [hR.mem, h.mem, List.take_succ_eq_append_getElem hk, hse]
    constructor
    · rintro (⟨x, hx, h⟩ | h)
      · exact ⟨x, List.mem_append_left _ hx, h⟩
      · exact ⟨s, by simp, h⟩
    · rintro ⟨x, hx, h⟩
      rcases List.mem_append.1 hx with hx | hx
      · exact .inl ⟨x, hx, h⟩
      · rw [List.mem_singleton.1 hx] at h; exact .inr h
  · have h1 := hR.len
    have h2 := h.len
    rw [List.length_take] at h2 ⊢
    omega

set_option maxHeartbeats 8000000 in
theorem set_any (V : Option Addr) (c : Nat) (l : List Sp) (w : World) (hV : Ps w V l) (hi : InL l) (hl : l.length ≤ 10000) :
    Calls Try.prog 11 #[.slice V l.length c] w fun e w' => (∃ R A c', SetR l R ∧ e = .returned (.slice A R.length c') ∧ OwnR w' w.heap.size 24 encS 2 (.slice A R.length c') R) ∧ Below w.heap.size w w' := by
  have HV := Lib.hid hV
  have HI := Lib.hid hi
  clear hV hi
  have hmx : Try.prog.follows .mixedOrders = true := by kernel_rfl
  go_enter Try.func11, Try.ntmps11
  go_wp2_with fail
  go_loopw [3, 4] (fun s3 s4 wr => ∃ (k : Nat) (X : List Sp) (A : Option Addr) (c2 : Nat), k ≤ l.length ∧ s4 = .int .i64 k ∧ s3 = .slice A X.length c2 ∧ Hid (SetR (l.take k) X) ∧ Hid (OwnR wr w.heap.size 24 encS 2 (.slice A X.length c2) X) ∧ Hid (Below w.heap.size w wr))
    (fun _ s4 _ => l.length - (intOf s4).toNat)
  case atStart => exact ⟨0, [], none, 0, Nat.zero_le _, rfl, rfl, Lib.hid SetR.nil, Lib.hid (OwnR.nil _ _ _ _ _), Lib.hid (Below.refl _ _)⟩
  case round =>
    obtain ⟨k, X, A, c2, hk, rfl, rfl, HS, HO, HB⟩ := hrel
    have hsz := HB.out.size
    by_cases hlt : k < l.length
    · obtain ⟨p, o, rfl, hc⟩ := ps_at HV.out k l[k] (List.getElem?_eq_getElem hlt)
      have HX := Lib.hid (List.getElem?_eq_getElem hlt)
      have hxi := HI.out l[k] (List.getElem_mem hlt)
      obtain ⟨x, hx⟩ : ∃ x, x = l[k] := ⟨_, rfl⟩
      rw [← hx] at hc HX hxi
      obtain ⟨xf, xt⟩ := x
      dsimp only at hc hxi
      have C := hc wr HB.out
      have d0 := C.1
      have d1 := C.2
      clear hc hx
      have hkl : (k : Int) < l.length := by omega
      have hXl : X.length ≤ 10000 := by have := HS.out.len; rw [List.length_take] at this; omega
      have hA : ∀ lo hi : Int, lo = min xf xt → hi = max xf xt → Hid (∀ x : More, Calls Try.prog 12 #[.slice A X.length c2, .agg #[.int .i64 lo, .int .i64 hi]] (plus wr x) fun e w' => ∃ R A' c', e = .returned (.tuple #[.slice A' R.length c', .int .u16 0]) ∧ SetR (l.take (k + 1)) R ∧ OwnR w' w.heap.size 24 encS 2 (.slice A' R.length c') R ∧ Below (plus wr x).heap.size (plus wr x) w') := fun lo hi e1 e2 => Lib.hid (fun x => by
        have hbd := plus_below wr x
        refine (add_yes A c2 X lo hi (plus wr x) ((sl_own HO.out).below hbd (Nat.le_refl _)) HS.out.inl (by omega) HS.out.snd (by omega) (by unfold In at *; omega) (by unfold In at *; omega)).mono ?_
        rintro e w' ⟨⟨R, A', c', hR, rfl, ho⟩, hb⟩
        exact ⟨R, A', c', rfl, HS.out.step HX.out hR e1 e2, ho.mono (Nat.le_trans hsz hbd.size), hb⟩)
      have e0 : ∀ x : More, (plus wr x).cell? ⟨p, o + k * 2, none⟩ = some (.int .i64 xf) := fun x => (plus_cell wr x _ (by rw [d0]; rfl)).trans d0
      have e1 : ∀ x : More, (plus wr x).cell? ⟨p, o + k * 2 + 1, none⟩ = some (.int .i64 xt) := fun x => (plus_cell wr x _ (by rw [d1]; rfl)).trans d1
      clear hxi C d0 d1
      by_cases hm : xt < xf
      · have hm2 : ¬ xf < xt := by omega
        have HA := hA xt xf (by omega) (by omega)
        clear hA
        go_wp2_with fail
        refine wp_region_fresh [] [24] (fun _ v z => ∃ R A' c', v = .tuple #[.slice A' R.length c', .int .u16 0] ∧ Hid (SetR (l.take (k + 1)) R) ∧ Hid (OwnR z w.heap.size 24 encS 2 (.slice A' R.length c') R)) hmx (by kernel_rfl) (by kernel_rfl) ?_
        iterate 24 (refine walkF_one none wr rfl (by kernel_rfl) ?_; go_big_quiet_step (fail); refine wpQuiet_nil ?_)
        refine walkF_make none wr rfl rfl rfl (by kernel_rfl) (fun x => ?_) ?_
        · refine grow_call ?_ ((HA.out x).mono ?_)
          · simp [execOp, go_sem]
          · rintro e w4 ⟨R, A4, c4, rfl, h1, h2, h3⟩
            exact ⟨_, rfl, h3, R, A4, c4, rfl, Lib.hid h1, Lib.hid h2⟩
        rintro v z ⟨R, A8, c8, rfl, HR8, HO8⟩ gz
        conv => arg 11; simp [Act.put]
        iterate 5 (refine walkF_one none wr rfl (by kernel_rfl) ?_; go_big_quiet_step (fail); refine wpQuiet_nil ?_)
        refine walkF_end ?_
        intro w' h0 hE
        have HO9 := Lib.hid (HO8.out.below (hE 24))
        clear hE gz
        go_wp2_with fail
        go_roundw
        case measure => simp [intOf]; omega
        case rel => exact ⟨k + 1, R, A8, c8, by omega, by go_num, rfl, HR8, HO9, Lib.hid (HB.out.trans (Below.mono h0 hsz))⟩
      · by_cases hm2 : xf < xt
        · skip
          have HA := hA xf xt (by omega) (by omega)
          clear hA
          go_wp2_with fail
          refine wp_region_fresh [] [24] (fun _ v z => ∃ R A' c', v = .tuple #[.slice A' R.length c', .int .u16 0] ∧ Hid (SetR (l.take (k + 1)) R) ∧ Hid (OwnR z w.heap.size 24 encS 2 (.slice A' R.length c') R)) hmx (by kernel_rfl) (by kernel_rfl) ?_
          iterate 24 (refine walkF_one none wr rfl (by kernel_rfl) ?_; go_big_quiet_step (fail); refine wpQuiet_nil ?_)
          refine walkF_make none wr rfl rfl rfl (by kernel_rfl) (fun x => ?_) ?_
          · refine grow_call ?_ ((HA.out x).mono ?_)
            · simp [execOp, go_sem]
            · rintro e w4 ⟨R, A4, c4, rfl, h1, h2, h3⟩
              exact ⟨_, rfl, h3, R, A4, c4, rfl, Lib.hid h1, Lib.hid h2⟩
          rintro v z ⟨R, A8, c8, rfl, HR8, HO8⟩ gz
          conv => arg 11; simp [Act.put]
          iterate 5 (refine walkF_one none wr rfl (by kernel_rfl) ?_; go_big_quiet_step (fail); refine wpQuiet_nil ?_)
          refine walkF_end ?_
          intro w' h0 hE
          have HO9 := Lib.hid (HO8.out.below (hE 24))
          clear hE gz
          go_wp2_with fail
          go_roundw
          case measure => simp [intOf]; omega
          case rel => exact ⟨k + 1, R, A8, c8, by omega, by go_num, rfl, HR8, HO9, Lib.hid (HB.out.trans (Below.mono h0 hsz))⟩
        · obtain rfl : xf = xt := by omega
          have HA := hA xf xf (by omega) (by omega)
          clear hA
          go_wp2_with fail
          refine wp_region_fresh [] [24] (fun _ v z => ∃ R A' c', v = .tuple #[.slice A' R.length c', .int .u16 0] ∧ Hid (SetR (l.take (k + 1)) R) ∧ Hid (OwnR z w.heap.size 24 encS 2 (.slice A' R.length c') R)) hmx (by kernel_rfl) (by kernel_rfl) ?_
          iterate 24 (refine walkF_one none wr rfl (by kernel_rfl) ?_; go_big_quiet_step (fail); refine wpQuiet_nil ?_)
          refine walkF_make none wr rfl rfl rfl (by kernel_rfl) (fun x => ?_) ?_
          · refine grow_call ?_ ((HA.out x).mono ?_)
            · simp [execOp, go_sem]
            · rintro e w4 ⟨R, A4, c4, rfl, h1, h2, h3⟩
              exact ⟨_, rfl, h3, R, A4, c4, rfl, Lib.hid h1, Lib.hid h2⟩
          rintro v z ⟨R, A8, c8, rfl, HR8, HO8⟩ gz
          conv => arg 11; simp [Act.put]
          iterate 5 (refine walkF_one none wr rfl (by kernel_rfl) ?_; go_big_quiet_step (fail); refine wpQuiet_nil ?_)
          refine walkF_end ?_
          intro w' h0 hE
          have HO9 := Lib.hid (HO8.out.below (hE 24))
          clear hE gz
          go_wp2_with fail
          go_roundw
          case measure => simp [intOf]; omega
          case rel => exact ⟨k + 1, R, A8, c8, by omega, by go_num, rfl, HR8, HO9, Lib.hid (HB.out.trans (Below.mono h0 hsz))⟩
    · obtain rfl : k = l.length := by omega
      have hS := HS.out
      rw [List.take_length] at hS
      have HS2 := Lib.hid hS
      clear hS
      go_wp2_with fail
      go_ret
      exact ⟨⟨X, A, c2, HS2.out, rfl, HO.out⟩, HB.out⟩

end Go.Proofs.Ytfbnobhecfgahaa
