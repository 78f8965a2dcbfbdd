/- Layer 23: Add of the document. -/
import Derived.Test.YtfbnobhecfgahaaSp9
set_option linter.unusedSimpArgs false
set_option linter.unusedVariables false
namespace Go.Proofs.Ytfbnobhecfgahaa
open Go.RowKit
set_option maxRecDepth 100000

theorem radd_no (V : Option Addr) (c : Nat) (l : List Sp) (s1 s2 : Int) (w : World) (hV : Ps w V l) (hin : InL l) (hl : l.length ≤ 1000000) (hno : s2 < s1 ∨ ¬ Snd l) :
    Calls Try.prog 23 #[.slice V l.length c, .agg #[.int .i64 s1, .int .i64 s2]] w fun e w' => e = .returned (.tuple #[.slice none 0 0, .int .i64 1]) ∧ Below w.heap.size w w' := by
  have HK := Lib.hid ((Qs.zero w).box #[.int .i64 s1, .int .i64 s2] 24)
  have hS := fun (W : World) (hb : Below w.heap.size w W) => rsound_any V c l W (hV.below hb (Nat.le_refl _)) hin hl
  have HS := Lib.hid (hS _ (HK.out.top 1))
  by_cases h : Snd l
  · rw [show sndB l = true from decide_eq_true h] at HS
    have hd : decide (s2 < s1) = true := decide_eq_true (by rcases hno with h1 | h1; exact h1; exact absurd h h1)
    clear hno h hV hin hS
    go_enter Try.func23, Try.ntmps23
    go_wp2_with fail
    refine HS.out.mono ?_
    rintro e w1 ⟨rfl, b1⟩
    have HK1 := Lib.hid (HK.out.go b1)
    clear b1 HS
    have C := HK1.out.says
    simp only [sayAll, cellsSay, qB, qW, Nat.reduceAdd, and_true, true_and] at C
    go_wp2_with fail
    go_ret2
    exact ⟨rfl, HK1.out.top 1⟩
  · rw [show sndB l = false from decide_eq_false h] at HS
    clear hno h hV hin hS
    go_enter Try.func23, Try.ntmps23
    go_wp2_with fail
    refine HS.out.mono ?_
    rintro e w1 ⟨rfl, b1⟩
    have HK1 := Lib.hid (HK.out.go b1)
    clear b1 HS
    go_wp2_with fail
    go_ret2
    exact ⟨rfl, HK1.out.top 1⟩

set_option maxHeartbeats 4000000 in
theorem radd_yes (V : Option Addr) (c : Nat) (l : List Sp) (s1 s2 : Int) (w : World) (hV : Ps w V l) (hin : InL l) (hl : l.length ≤ 99999) (hs : Snd l) (h12 : s1 ≤ s2) (hi1 : In s1) (hi2 : In s2) :
    Calls Try.prog 23 #[.slice V l.length c, .agg #[.int .i64 s1, .int .i64 s2]] w fun e w' => (∃ R A c', AddR l (s1, s2) R ∧ e = .returned (.tuple #[.slice A R.length c', .int .i64 0]) ∧ OwnR w' w.heap.size 24 encS 2 (.slice A R.length c') R) ∧ Below w.heap.size w w' := by
  have K := (Qs.zero w).box #[.int .i64 s1, .int .i64 s2] 24
  have hS := rsound_any V c l _ (hV.below (K.top 1) (Nat.le_refl _)) hin (by omega)
  rw [show sndB l = true from decide_eq_true hs] at hS
  have HS := Lib.hid hS
  have HV := Lib.hid hV
  have HK := Lib.hid K
  have HSd := Lib.hid hs
  have HI := Lib.hid (And.intro hin (And.intro hi1 hi2))
  have hd : decide (s2 < s1) = false := decide_eq_false (by omega)
  clear hV hin hs hi1 hi2 hS K
  go_enter Try.func23, Try.ntmps23
  go_wp2_with fail
  refine HS.out.mono ?_
  rintro e w1 ⟨rfl, b1⟩
  have HK1 := Lib.hid (HK.out.go b1)
  clear b1 HS HK
  have C := HK1.out.says
  simp only [sayAll, cellsSay, qB, qW, Nat.reduceAdd, and_true, true_and] at C
  go_upto_region 6 with (at_builtin; go_must (refine appR Try.eltS _ rfl (.tmp 19) (.tmp 20) rfl w1.heap.size _ [] rfl (OwnR.nil _ _ _ _ _) V c l rfl (HV.out.below (HK1.out.top 1) (Nat.le_refl _)) (by unfold maxLen; simp; omega) (by simp; omega) (Nat.le_refl _) ?_); intro A2 c2 w2 hown2 hb2)
  have HO2 := Lib.hid (show OwnR w2 w1.heap.size 24 encS 2 (.slice A2 l.length c2) l by simpa using hown2)
  have HK2 := Lib.hid (HK1.out.go hb2)
  have hsz2 := hb2.size
  clear hown2 hb2 C
  have C := HK2.out.says
  simp only [sayAll, cellsSay, qB, qW, Nat.reduceAdd, and_true, true_and] at C
  have hszw : w.heap.size ≤ w1.heap.size := (HK1.out.top 1).size
  go_wp2_with (at_builtin; go_must (refine appR1 Try.eltS _ rfl (.tmp 22) (.tmp 24) rfl w1.heap.size _ l rfl (HO2.out.alloc _) w2.heap.size 1 (s1, s2) 24 _ rfl (Blk.new w2 _ _) rfl (by unfold maxLen; omega) (by omega) (by simp; omega) ?_); intro g4 c4 w4 hown4 hb4 hg4)
  have HB4 := Lib.hid ((HK2.out.top 1).trans (((Below.refl w1.heap.size w2).alloc hsz2 _).trans hb4 |>.mono hszw))
  have hJ := joined_any (some ⟨g4, 0, none⟩) c4 (l ++ [(s1, s2)]) w4 (OwnR.ps hown4) (fun x hx => by
    rcases List.mem_append.1 hx with hx | hx
    · exact HI.out.1 x hx
    · rw [List.mem_singleton.1 hx]; exact HI.out.2) (fun x hx => by
    rcases List.mem_append.1 hx with hx | hx
    · exact HSd.out.1 x hx
    · rw [List.mem_singleton.1 hx]; exact h12) (by simp; omega)
  have hn : (l ++ [(s1, s2)]).length = l.length + 1 := by simp
  rw [hn] at hJ
  have HJ := Lib.hid hJ
  clear hJ hown4 hb4 hn
  refine HJ.out.mono ?_
  rintro e w5 ⟨⟨R, A, c', hR, rfl, hown5⟩, hb5⟩
  have H5 := Lib.hid hown5
  have HR := Lib.hid hR
  have hsz4 := HB4.out.size
  have HB5 := Lib.hid (HB4.out.trans (hb5.mono hsz4))
  clear hown5 hb5 hR
  go_wp2_with fail
  go_ret2
  refine ⟨⟨R, A, c', ⟨HR.out.1, fun t => ?_, ?_, HR.out.2.2⟩, rfl, H5.out.mono hsz4⟩, HB5.out⟩
  · rw [HR.out.2.1, mem_append, mem_single]
  · refine inl_mem (S := l ++ [(s1, s2)]) HR.out.1 (fun t ht => (HR.out.2.1 t).1 ht) (fun x hx => ?_)
    rcases List.mem_append.1 hx with hx | hx
    · exact HI.out.1 x hx
    · rw [List.mem_singleton.1 hx]; exact HI.out.2

end Go.Proofs.Ytfbnobhecfgahaa
