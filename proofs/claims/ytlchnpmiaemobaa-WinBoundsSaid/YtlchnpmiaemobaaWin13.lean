/- Layer 13: the document's out, Ack, Drop; SamePieces. -/
import Derived.Test.YtlchnpmiaemobaaWin11
set_option linter.unusedSimpArgs false
set_option linter.unusedVariables false
namespace Go.Proofs.Ytlchnpmiaemobaa
open Go.RowKit
set_option maxRecDepth 100000

/-- which are taken out -/
def goneR (al : Bool) (se a0 a2 : Nat) (p : PC) : Bool := decide (p.se = se) && (al || !(bef a0 a2 p.t0 p.t2))
theorem goneR_true (se a0 a2 : Nat) : goneR true se a0 a2 = goneD se := by funext p; simp [goneR, goneD]
theorem goneR_false (se a0 a2 : Nat) : goneR false se a0 a2 = goneA se a0 a2 := by funext p; simp [goneR, goneA]
theorem filt_snoc {f : PC → Bool} {l : List PC} {k : Nat} {x : PC} (hx : l[k]? = some x) : (l.take (k + 1)).filter f = (l.take k).filter f ++ (if f x = true then [x] else []) := by
  obtain ⟨hj, hx⟩ := List.getElem?_eq_some_iff.1 hx
  rw [List.take_succ_eq_append_getElem hj, List.filter_append, hx]
  by_cases h : f x = true <;> simp [h]

set_option maxHeartbeats 2000000 in
theorem rout_any (al : Bool) (g se a0 a1 a2 : Nat) (b : Int) (A : Option Addr) (c : Nat) (l : List PC) (w : World) (hg : Blk w g 46 #[.int .i64 b, .slice A l.length c]) (hr : OwnR w 0 31 encP 8 (.slice A l.length c) l) (hl : l.length ≤ 1000000) :
    Calls Try.prog 56 #[.pointer (some ⟨g, 0, none⟩), .int .u32 se, .agg #[.int .u32 a0, .int .u32 a1, .int .u32 a2], .bool al] w fun e w' =>
      e = .returned (.int .i64 ((l.length : Int) - (l.filter fun p => !goneR al se a0 a2 p).length)) ∧ ∃ A' c', Blk w' g 46 #[.int .i64 b, .slice A' (l.filter fun p => !goneR al se a0 a2 p).length c'] ∧ OwnR w' (w.heap.size + 1) 31 encP 8 (.slice A' (l.filter fun p => !goneR al se a0 a2 p).length c') (l.filter fun p => !goneR al se a0 a2 p) ∧ Foot (fun k => k = g) w w' := by
  have hgl := hg.lt
  have HG := Lib.hid hg
  have HR := Lib.hid hr
  clear hg hr
  go_enter Try.func56, Try.ntmps56
  go_wp2_with fail
  go_loopw [9, 10] (fun s9 s10 wr => ∃ (k : Nat) (L : List PC) (A2 : Option Addr) (c2 : Nat), k ≤ l.length ∧ s10 = .int .i64 k ∧ s9 = .slice A2 L.length c2 ∧ Hid ((l.take k).filter (fun p => !goneR al se a0 a2 p) = L) ∧ Hid (OwnR wr (w.heap.size + 1) 31 encP 8 (.slice A2 L.length c2) L) ∧
      Hid (Below (w.heap.size + 1) (w.alloc (.cells #[.int .u32 a0, .int .u32 a1, .int .u32 a2] 29)) wr))
    (fun _ s10 _ => l.length - (intOf s10).toNat)
  case atStart => exact ⟨0, [], none, 0, Nat.zero_le _, rfl, rfl, Lib.hid rfl, Lib.hid (OwnR.nil _ _ _ _ _), Lib.hid (Below.refl _ _)⟩
  case round =>
    obtain ⟨k, L, A2, c2, hk, rfl, rfl, HL, HO, HB⟩ := hrel
    have hbox := (Blk.new w 29 #[.int .u32 a0, .int .u32 a1, .int .u32 a2]).below HB.out (Nat.lt_succ_self _)
    have hgr := (HG.out.alloc (.cells #[.int .u32 a0, .int .u32 a1, .int .u32 a2] 29)).below HB.out (Nat.lt_succ_of_lt hgl)
    have hsz := HB.out.size
    rw [World.size_alloc] at hsz
    have hsz2 : w.heap.size < wr.heap.size := by omega
    have hLl : L.length ≤ k := by rw [← HL.out]; have := List.length_filter_le (fun p => !goneR al se a0 a2 p) (l.take k); rw [List.length_take] at this; omega
    by_cases hlt : k < l.length
    · have hrr : OwnR wr 0 31 encP 8 (.slice A l.length c) l := own_of (HR.out.alloc _) fun j hj => HB.out.block j (by have := (World.ownsRow.lt HR.out j hj).2; omega)
      obtain ⟨p, rfl, hc, hf, -, -, -⟩ := OwnR.at_ Try.eltP hrr k hlt
      have hst := filt_snoc (f := fun p => !goneR al se a0 a2 p) (List.getElem?_eq_getElem hlt)
      rw [HL.out] at hst
      obtain ⟨x, hx⟩ : ∃ x, x = l[k] := ⟨_, rfl⟩
      rw [← hx] at hc hst
      obtain ⟨ps, f0, f1, f2, t0, t1, t2, pn⟩ := x
      have C := And.intro (hc 0 _ rfl) (And.intro (hc 1 _ rfl) (And.intro (hc 2 _ rfl) (And.intro (hc 3 _ rfl) (And.intro (hc 4 _ rfl) (And.intro (hc 5 _ rfl) (And.intro (hc 6 _ rfl) (hc 7 _ rfl)))))))
      simp only [Nat.add_zero] at C
      have C2 := (((Qs.nil wr).cons (k := qB _ _ _) hgr).cons (k := qB _ _ _) hbox).says
      simp only [sayAll, qB, cellsSay, Nat.reduceAdd, and_true, true_and] at C2
      have HC := Lib.hid (And.intro hbox hgr)
      clear hc hf hrr hx hbox hgr
      have HK := Lib.hid (Qs.box (Qs.nil wr) #[.int .u32 ps, .int .u32 f0, .int .u32 f1, .int .u32 f2, .int .u32 t0, .int .u32 t1, .int .u32 t2, .int .i64 pn] 31)
      by_cases h1 : ps = se
      · subst h1
        have e1 : ((ps : Int) != (ps : Int)) = false := by simp
        cases al
        · have hB := fun (W : World) => rbefore_any a0 a1 a2 t0 t1 t2 W
          have hgo : (!goneR false ps a0 a2 ⟨ps, f0, f1, f2, t0, t1, t2, pn⟩) = bef a0 a2 t0 t2 := by simp [goneR]
          rw [hgo] at hst
          generalize bef a0 a2 t0 t2 = r at hB hst
          have HBf := Lib.hid hB
          have Hst := Lib.hid hst
          clear hB hgo hst
          go_wp2_with fail
          refine (HBf.out _).mono ?_
          rintro e w5 ⟨rfl, b5⟩
          have HO5 := Lib.hid ((HO.out.alloc (.cells #[.int .u32 ps, .int .u32 f0, .int .u32 f1, .int .u32 f2, .int .u32 t0, .int .u32 t1, .int .u32 t2, .int .i64 pn] 31)).below b5)
          have HK5 := Lib.hid (HK.out.go b5)
          have HB5 := Lib.hid ((HB.out.alloc (by simpa using hsz) (.cells #[.int .u32 ps, .int .u32 f0, .int .u32 f1, .int .u32 f2, .int .u32 t0, .int .u32 t1, .int .u32 t2, .int .i64 pn] 31)).trans (b5.mono (by simp; omega)))
          have hs5 := b5.size
          simp only [World.size_alloc] at hs5
          have C5 := HK5.out.says
          simp only [sayAll, cellsSay, qB, Nat.reduceAdd, and_true, true_and] at C5
          clear b5 C C2
          cases r
          · have Hst2 : Hid ((l.take (k + 1)).filter (fun p => !goneR false ps a0 a2 p) = L) := Lib.hid (by rw [Hst.out]; simp)
            go_wp2_with fail
            go_roundw
            case measure => simp [intOf]; omega
            case rel => exact ⟨k + 1, L, A2, c2, by omega, by go_num, rfl, Hst2, HO5, HB5⟩
          · have Hst2 : Hid ((l.take (k + 1)).filter (fun p => !goneR false ps a0 a2 p) = L ++ [⟨ps, f0, f1, f2, t0, t1, t2, pn⟩]) := Lib.hid (by rw [Hst.out]; simp)
            go_wp2_with (at_builtin; go_must (refine appR1 Try.eltP _ rfl (.tmp 43) (.tmp 45) rfl (w.heap.size + 1) _ L rfl (HO5.out.alloc _) w5.heap.size 1 ⟨ps, f0, f1, f2, t0, t1, t2, pn⟩ 31 _ rfl (Blk.new w5 _ _) rfl (by unfold maxLen; omega) (by omega) (by simp; omega) ?_); intro g6 c6 w6 hown6 hb6 hg6)
            go_roundw
            case measure => simp [intOf]; omega
            case rel => exact ⟨k + 1, L ++ [⟨ps, f0, f1, f2, t0, t1, t2, pn⟩], some ⟨g6, 0, none⟩, c6, by omega, by go_num, by simp, Hst2, Lib.hid (by simpa using hown6), Lib.hid ((HB5.out.alloc (by omega) _).trans hb6)⟩
        · have hgo : (!goneR true ps a0 a2 ⟨ps, f0, f1, f2, t0, t1, t2, pn⟩) = false := by simp [goneR]
          rw [hgo] at hst
          have Hst2 : Hid ((l.take (k + 1)).filter (fun p => !goneR true ps a0 a2 p) = L) := Lib.hid (by rw [hst]; simp)
          clear hst hgo
          go_wp2_with fail
          go_roundw
          case measure => simp [intOf]; omega
          case rel => exact ⟨k + 1, L, A2, c2, by omega, by go_num, rfl, Hst2, Lib.hid (HO.out.alloc _), Lib.hid (HB.out.alloc (by simpa using hsz) _)⟩
      · have e1 : ((ps : Int) != (se : Int)) = true := by simp; omega
        have hgo : (!goneR al se a0 a2 ⟨ps, f0, f1, f2, t0, t1, t2, pn⟩) = true := by simp [goneR, h1]
        rw [hgo] at hst
        have Hst2 : Hid ((l.take (k + 1)).filter (fun p => !goneR al se a0 a2 p) = L ++ [⟨ps, f0, f1, f2, t0, t1, t2, pn⟩]) := Lib.hid (by rw [hst]; simp)
        clear hst hgo h1
        go_wp2_with (at_builtin; go_must (refine appR1 Try.eltP _ rfl (.tmp 43) (.tmp 45) rfl (w.heap.size + 1) _ L rfl ((HO.out.alloc _).alloc _) (wr.heap.size + 1) 1 ⟨ps, f0, f1, f2, t0, t1, t2, pn⟩ 31 _ rfl (by have := Blk.new (wr.alloc (.cells #[.int .u32 ps, .int .u32 f0, .int .u32 f1, .int .u32 f2, .int .u32 t0, .int .u32 t1, .int .u32 t2, .int .i64 pn] 31)) 31 #[.int .u32 ps, .int .u32 f0, .int .u32 f1, .int .u32 f2, .int .u32 t0, .int .u32 t1, .int .u32 t2, .int .i64 pn]; rw [World.size_alloc] at this; exact this) rfl (by unfold maxLen; omega) (by omega) (by simp; omega) ?_); intro g6 c6 w6 hown6 hb6 hg6)
        go_roundw
        case measure => simp [intOf]; omega
        case rel => exact ⟨k + 1, L ++ [⟨ps, f0, f1, f2, t0, t1, t2, pn⟩], some ⟨g6, 0, none⟩, c6, by omega, by go_num, by simp, Hst2, Lib.hid (by simpa using hown6), Lib.hid (((HB.out.alloc (by simpa using hsz) _).alloc (by simp; omega) _).trans hb6)⟩
    · obtain rfl : k = l.length := by omega
      rw [List.take_length] at HL
      have C3 := ((Qs.nil wr).cons (k := qB _ _ _) hgr).says
      simp only [sayAll, qB, cellsSay, Nat.reduceAdd, and_true, true_and] at C3
      have HGr := Lib.hid hgr
      clear hbox hgr
      go_wp2_with fail
      go_ret
      rw [HL.out]
      have hne := OwnR.ne HO.out (show g < w.heap.size + 1 by omega)
      have hb2 : Below w.heap.size w wr := ((Below.refl _ w).alloc (Nat.le_refl _) _).trans (HB.out.mono (by omega))
      exact ⟨rfl, A2, c2, HGr.out.set 1 _, OwnR.far (p := ⟨g, 1, none⟩) HO.out hne _, (Foot.of_below hb2).grown (grown_set wr g 1 _) (fun j e => by injection e with e; exact .inl e.symm)⟩

end Go.Proofs.Ytlchnpmiaemobaa
