/- Joined: Tp5. -/
import Derived.Test.YtiogckgchlnldaaGreatQ26
import Derived.Test.YtiogckgchlnldaaGreatQ17
import Derived.Sort.CutIn
set_option linter.unusedSimpArgs false
set_option linter.unusedVariables false
/- Layer 10: the program's notes, as an iterator. -/
set_option linter.unusedSimpArgs false
set_option linter.unusedVariables false
namespace Go.Proofs.YtiogckgchlnldaaGreat
open Go.RowKit Go.Shelf
set_option maxRecDepth 100000

attribute [local go_sem] Oper.semAt_some

/-- a note that is handed out: its bytes are new -/
def encTn (x : Bx) : Array Value := #[vaN x, .int .i64 ((wrapL x.b).length : Nat)]
def rTn (x : Bx) (A C : World) : Prop := Below A.heap.size A C ∧ OwnB C A.heap.size (vaN x) x.b ∧ x.b.length ≤ 600
def sTn (l : List UInt8) (xs : List Bx) : Prop := ∃ n, Rd10 l (xs.map Bx.b) n

set_option maxHeartbeats 4000000 in
theorem tnotes_seq (n : Nat) (hn : 1 ≤ n) (T : TypeId) (Bn : Nat) (w0 w : World) (A : Option Addr) (c : Nat) (l : List UInt8) (hl : Bs w0 A l) (hA : Fm A c) (hc : l.length ≤ c) (hm : l.length ≤ 200000) (hw : Below w0.heap.size w0 w)
    (hB : Bn < w.heap.size) (hBn : w.cell? ⟨Bn, 0, none⟩ = some (.slice A l.length c)) :
    SeqR Fence.wide n Tryz.prog T 75 #[.pointer (some ⟨Bn, 0, none⟩)] encTn rTn (Below w0.heap.size) (sTn l) (fun _ => True) (l.length + 1) w := by
  intro ll J Jx W hW hJ _ hY h0
  have hB2 := (hW.cell (p := ⟨Bn, 0, none⟩) hB).trans hBn
  have HL := Lib.hid (And.intro hl (And.intro hA hc))
  have HJ := Lib.hid hJ
  have HY := Lib.hid hY
  have tW := hw.trans (hW.mono hw.size)
  clear hl hA hJ hY hw hW hBn
  obtain ⟨m, hmm⟩ : ∃ m, m = l.length := ⟨_, rfl⟩
  rw [← hmm] at hB2
  have Hm := Lib.hid hmm
  refine callsIn_of_wp Tryz.func75 rfl trivial ?_ rfl
  simp only [Tryz.ntmps75, List.size_toArray, List.length_cons, List.length_nil, Nat.reduceAdd, Nat.reduceSub, Array.replicate_succ, Array.replicate_zero, List.push_toArray, List.append_toArray, List.nil_append, List.cons_append]
  gi_wp2
  gi_loopw [3] (fun s3 wr => ∃ (pre : List Bx) (A' : Option Addr) (c' k at_ : Nat), s3 = .slice A' k c' ∧ k ≤ c' ∧ k ≤ 200000 ∧ Hid (J pre wr ∧ Below w0.heap.size w0 wr ∧ Bs w0 A' (l.drop at_) ∧ Fm A' c' ∧ k = (l.drop at_).length ∧ at_ ≤ l.length ∧ 2 * pre.length ≤ at_ ∧ Rs10 l (pre.map Bx.b) at_))
    (fun s3 _ => match s3 with | .slice _ k _ => k | _ => 0)
  case atStart => exact ⟨[], A, c, m, 0, by rw [Hm.out], by rw [Hm.out]; exact HL.out.2.2, by rw [Hm.out]; exact hm, Lib.hid ⟨h0, tW, by rw [List.drop_zero]; exact HL.out.1, HL.out.2.1, by rw [List.drop_zero]; exact Hm.out, Nat.zero_le _, by simp, Rs10.start l⟩⟩
  case round =>
    obtain ⟨pre, A', c', k, at_, rfl, hkc, hk1, HR⟩ := hrel
    obtain ⟨r1, r2, r3, r4, r5, r6, r7, r8⟩ := HR.out
    have HC := Lib.hid (open_any A' c' (l.drop at_) wr (r3.below r2) (by rw [← r5]; exact hkc) (by rw [← r5]; exact hk1))
    rw [← r5] at HC
    clear r1 r2 r3 r4 r5 r6 r7 r8
    gi_wp2_with fail
    · refine ⟨trivial, ?_⟩
      gi_at_call 76
      refine (callsIn_wide.2 HC.out).mono ?_
      rintro e w1 ⟨hO, b1⟩
      obtain ⟨r1, r2, r3, r4, r5, r6, r7, r8⟩ := HR.out
      have hJ1 := HJ.out pre wr w1 r1 (StepT.grown b1)
      have t1 := on1 r2 b1
      rcases hO with ⟨hno, rfl⟩ | ⟨o, r, A3, n3, c3, ho, rfl, hn3, hown⟩
      · have HE := Lib.hid (And.intro hJ1 (show sTn l pre from ⟨_, r8.stop (fun o r e => absurd e (hno o r))⟩))
        clear r1 r2 r3 r4 r5 r6 r7 r8 hJ1 t1 hno b1 HC HR
        gi_wp2
        refine ⟨(fun f hf => by cases hf), ?_⟩
        refine (‹∀ (a : Act) (w : World), wpListIn _ _ _ _ _ _ a w → _›) _ _ ?_
        gi_wp2
        refine bodyPost_ret (results_none rfl _ _ _) rfl ?_
        exact ⟨⟨_, rfl⟩, .inl ⟨_, HE.out.2, HE.out.1⟩⟩
      · have hw4 : (wrapL o).length = (encL o).length + 1 := by unfold wrapL; simp
        obtain ⟨q, hq⟩ : ∃ q, q = (encL o).length + 1 := ⟨_, rfl⟩
        rw [← hq] at hw4 ⊢
        by_cases h6 : 600 < n3
        · have d6 : decide ((600 : Int) < (n3 : Int)) = true := decide_eq_true (by omega)
          have HE := Lib.hid (And.intro hJ1 (show sTn l pre from ⟨_, r8.stop (fun o' r' e => by
            obtain ⟨rfl, rfl⟩ := enc_one (ho.symm.trans e)
            omega)⟩))
          clear r1 r2 r3 r4 r5 r6 r7 r8 hJ1 t1 ho hown hn3 b1 HC HR hw4 hq
          gi_wp2
          refine ⟨(fun f hf => by cases hf), ?_⟩
          refine (‹∀ (a : Act) (w : World), wpListIn _ _ _ _ _ _ a w → _›) _ _ ?_
          gi_wp2
          refine bodyPost_ret (results_none rfl _ _ _) rfl ?_
          exact ⟨⟨_, rfl⟩, .inl ⟨_, HE.out.2, HE.out.1⟩⟩
        · have d6 : decide ((600 : Int) < (n3 : Int)) = false := decide_eq_false (by omega)
          have hw2 := wrap_le ho
          have hw3 := wrapL_two o
          have hdl := List.length_drop (i := at_) (l := l)
          have hy0 := HY.out pre ⟨A3, c3, o⟩ wr w1 r1 ⟨b1, by rw [hn3] at hown; exact hown, by show o.length ≤ 600; omega⟩ (by omega)
          simp only [encTn, vaN] at hy0
          rw [hw4, ← hn3] at hy0
          obtain ⟨fn, tmps, assign, body, hy, hR⟩ := hy0
          have hnx := r8.next ho (by omega)
          have hdr : (l.drop at_).drop (wrapL o).length = r := drop_wrap ho
          have HN := Lib.hid (And.intro hw2 (And.intro hw3 (And.intro hw4 (And.intro hnx (And.intro hdr (And.intro hdl (And.intro r3 (And.intro r5 (And.intro r6 (And.intro r7 (And.intro t1 hn3)))))))))))
          have hqk : q ≤ k := by omega
          have hq1 : 0 < q := by omega
          have HRd := Lib.hid hR
          have HF := Lib.hid r4
          clear r1 r2 r3 r4 r5 r6 r7 r8 hJ1 t1 ho hown b1 HC HR hw2 hw3 hw4 hnx hdr hdl hR hq hn3
          gi_wp2
          refine HRd.out.mono ?_
          clear HRd hy
          rintro e W3 (⟨rfl, hJ3, hk3⟩ | ⟨rfl, hJx3⟩)
          · gi_wp2_with (refine cutBEIn _ rfl (.tmp 28) (.tmp 29) rfl A' k c' rfl HF.out q rfl hqk hkc ?_; intro X hX hFX; have HX := Lib.hid (And.intro hX hFX); clear hX hFX)
            obtain ⟨hw2, hw3, hw4, hnx, hdr, hdl, r3, r5, r6, r7, t1, hn3⟩ := HN.out
            have hX := HX.out.1 w0 _ r3 (by omega)
            have HE := Lib.hid (show J (pre ++ [⟨A3, c3, o⟩]) W3 ∧ Below w0.heap.size w0 W3 ∧ Bs w0 X (l.drop (at_ + q)) ∧ Fm X (c' - q) ∧ k - q = (l.drop (at_ + q)).length ∧ at_ + q ≤ l.length ∧ 2 * (pre ++ [(⟨A3, c3, o⟩ : Bx)]).length ≤ at_ + q ∧ Rs10 l ((pre ++ [(⟨A3, c3, o⟩ : Bx)]).map Bx.b) (at_ + q) from ⟨hJ3, t1.trans hk3, by rw [← List.drop_drop]; exact hX, HX.out.2, by rw [List.length_drop]; omega, by omega, by rw [List.length_append]; simp; omega, by rw [List.map_append]; rw [hw4] at hnx; exact hnx⟩)
            clear hw2 hw3 hw4 hnx hdr hdl r3 r5 r6 r7 t1 hX HN HX hJ3 hk3 hn3
            go_roundw
            case rel => exact ⟨_, X, c' - q, k - q, at_ + q, rfl, by omega, by omega, HE⟩
            case measure =>
              show k - q < k
              omega
          · gi_wp2
            refine bodyPost_ret (results_none rfl _ _ _) rfl ?_
            exact ⟨⟨_, rfl⟩, .inr ⟨_, trivial, hJx3⟩⟩

end Go.Proofs.YtiogckgchlnldaaGreat
