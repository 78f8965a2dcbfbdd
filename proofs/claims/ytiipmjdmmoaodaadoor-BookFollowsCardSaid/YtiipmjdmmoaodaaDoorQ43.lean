/- Joined: Bk37, Bk45, Bk46. -/
import Derived.Test.YtiipmjdmmoaodaaDoorQ39
import Derived.Test.YtiipmjdmmoaodaaDoorQ37
import Derived.Test.YtiipmjdmmoaodaaDoorQ38
import Derived.Test.YtiipmjdmmoaodaaDoorQ40
import Derived.Test.YtiipmjdmmoaodaaDoorQ33
import Derived.Test.YtiipmjdmmoaodaaDoorQ15
import Derived.RangeFuncWrites
import Derived.Test.YtiipmjdmmoaodaaDoorQ36
import Derived.Test.YtiipmjdmmoaodaaDoorQ8
import Derived.Test.YtiipmjdmmoaodaaDoorQ9
import Derived.Sort.AssemblyPlain
import Derived.Deep.DeepCutAuto
import Derived.Deep.CutBlock
import Derived.Deep.LoopGhost
import Derived.Shelf.Small.Bits
import Derived.Shelf.Strconv.Itoa0
import Derived.Test.YtiipmjdmmoaodaaDoorProg
import Derived.Lib.ItoaNum
import Derived.BigRegion
import Derived.Test.YtiipmjdmmoaodaaDoorQ41
import Derived.Test.YtiipmjdmmoaodaaDoorQ14
set_option linter.unusedSimpArgs false
set_option linter.unusedVariables false
/- Layer 12: walk of BookKeeps. -/
set_option linter.unusedSimpArgs false
set_option linter.unusedVariables false
namespace Go.Proofs.YtiipmjdmmoaodaaDoor
open Go.RowKit
set_option maxRecDepth 100000

section
variable {B : Nat} {w0 w w' : World} {q : Nat} {D : BD} {ts us : List Kt}
theorem bk_samples (h : Bk B w0 w q D ts) (hT : Tab w) (x : Nat) (hx : x < 4294967296) : Calls Tryd.prog 17 #[ptB q, .int .u32 (x : Nat)] w fun e w' => ∃ U n, e = .returned (.slice U (D.at_ x).flatten.length n) ∧ OwnR w' w.heap.size 66 smp 2 (.slice U (D.at_ x).flatten.length n) (D.at_ x).flatten ∧ Below w.heap.size w w' := by
  obtain ⟨X, rfl, rfl, ok, hS⟩ := h
  exact bSamples_any (RdK.of (hS.at_ 0 rfl)) ok hT x hx
end
theorem csame_eq (V U : Option Addr) (n c d : Nat) (a : List (Int × Nat)) (w : World) (hn : n = a.length) (hV : Rw w smp 2 V a) (hU : Rw w smp 2 U a) (hal : a.length ≤ 4096) :
    Calls Tryd.prog 16 #[.slice V n c, .slice U n d] w fun e w' => e = .returned (.bool true) ∧ Below w.heap.size w w' := by
  have := csame_any V U c d a a w hV.ss hU.ss hal hal
  rw [decide_eq_true rfl] at this
  rw [hn]
  exact this
end Go.Proofs.YtiipmjdmmoaodaaDoor

/- Layer 12: two books by their data, beside other things. -/
set_option linter.unusedSimpArgs false
set_option linter.unusedVariables false
namespace Go.Proofs.YtiipmjdmmoaodaaDoor
open Go.RowKit
set_option maxRecDepth 100000

/-- two books by their data -/
def Bk2 (B : Nat) (w0 w : World) (q : Nat) (D : BD) (p : Nat) (E : BD) (ts : List Kt) : Prop := ∃ Y : Bl, Y.q = p ∧ Y.D = E ∧ OkB Y ∧ Bk B w0 w q D (thBk Y :: ts)
section
variable {B : Nat} {w0 w w' : World} {q p : Nat} {D E : BD} {ts us : List Kt}
theorem Bk2.swap (h : Bk2 B w0 w q D p E ts) : Bk2 B w0 w p E q D ts := by
  obtain ⟨Y, h1, h2, h3, X, h4, h5, h6, h7⟩ := h
  exact ⟨X, h4, h5, h6, Y, h1, h2, h3, h7.permB (List.Perm.swap _ _ _)⟩
theorem Bk2.fst (h : Bk2 B w0 w q D p E ts) : ∃ us, Bk B w0 w q D us := by
  obtain ⟨Y, h1, h2, h3, h4⟩ := h
  exact ⟨_, h4⟩
theorem Bk2.snd (h : Bk2 B w0 w q D p E ts) : ∃ us, Bk B w0 w p E us := h.swap.fst
theorem Bk2.go (h : Bk2 B w0 w q D p E ts) (b : Below w.heap.size w w') : Bk2 B w0 w' q D p E ts := by
  obtain ⟨Y, h1, h2, h3, h4⟩ := h
  exact ⟨Y, h1, h2, h3, h4.go b⟩
theorem Bk2.sep (h : Bk2 B w0 w q D p E ts) : Sep B w0 w ts := by
  obtain ⟨Y, h1, h2, h3, h4⟩ := h
  exact h4.sep.tail
theorem Bk2.b (h : Bk2 B w0 w q D p E ts) : Below B w0 w := h.sep.b
theorem Bk2.box (h : Bk2 B w0 w q D p E ts) (cs : Array Value) (t : TypeId) : Bk2 B w0 (w.alloc (.cells cs t)) q D p E (thB w.heap.size t cs :: ts) := by
  obtain ⟨Y, h1, h2, h3, h4⟩ := h
  exact ⟨Y, h1, h2, h3, (h4.box cs t).perm (List.Perm.swap _ _ _)⟩
theorem Bk2.put_ (h : Bk2 B w0 w q D p E ts) (i g : Nat) (l : List (Nat × Value)) (cs' : Array Value) {t : TypeId} {cs : Array Value} (hW : sets w g l = w') (e : ts[i]? = some (thB g t cs) := by rfl) (hc : setsL cs.toList l = cs'.toList := by rfl) : Bk2 B w0 w' q D p E (ts.set i (thB g t cs')) := by
  obtain ⟨Y, h1, h2, h3, h4⟩ := h
  exact ⟨Y, h1, h2, h3, h4.put_ (i + 1) g l cs' hW e hc⟩
theorem Bk2.tail {t : Kt} (h : Bk2 B w0 w q D p E (t :: ts)) : Bk2 B w0 w q D p E ts := by
  obtain ⟨Y, h1, h2, h3, h4⟩ := h
  exact ⟨Y, h1, h2, h3, (h4.perm (List.Perm.swap _ _ _)).tail⟩
theorem Bk2.perm (h : Bk2 B w0 w q D p E ts) (hp : ts.Perm us) : Bk2 B w0 w q D p E us := by
  obtain ⟨Y, h1, h2, h3, h4⟩ := h
  exact ⟨Y, h1, h2, h3, h4.perm (List.Perm.cons _ hp)⟩
theorem bk2_new (h : Bk B w0 w q D ts) (m c : Nat) (h1 : 1 ≤ m) (h2 : m ≤ 64) (h3 : 1 ≤ c) (h4 : c ≤ 24) : Calls Tryd.prog 19 #[.int .i64 (m : Nat), .int .i64 (c : Nat)] w fun e w' => ∃ p, e = .returned (ptB p) ∧ Bk2 B w0 w' q D p ⟨m, c, []⟩ ts := by
  obtain ⟨X, e1, e2, e3, hS⟩ := h
  refine (bk_new hS m c h1 h2 h3 h4).mono ?_
  rintro e w' ⟨p, rfl, hB⟩
  exact ⟨p, rfl, Bk2.swap ⟨X, e1, e2, e3, hB⟩⟩
theorem bk2_take (h : Bk2 B w0 w q D p E ts) (hT : Tab w) (f : FrD) (hf : f.ok) (A : Option Addr) (c : Nat) (hb : Bs w A f.l) (hl : f.l.length ≤ 1000) (hn : (E.at_ f.se).flatten.length + 24 ≤ 1000) :
    Calls Tryd.prog 20 #[ptB p, .agg (frC f A c)] w fun e w' => e = .returned (.int .u16 ((fitD E f).1 : Nat)) ∧ Bk2 B w0 w' q D p (takeD E f) ts := by
  obtain ⟨X, e1, e2, e3, hS⟩ := h.swap
  refine (bk_take hS hT f hf A c hb hl hn).mono ?_
  rintro e w' ⟨rfl, hB⟩
  exact ⟨rfl, Bk2.swap ⟨X, e1, e2, e3, hB⟩⟩
end
/-- what stands between two series: the second book has those ahead, no other one -/
structure FolS (T : List Se) (i : Nat) (E : BD) : Prop where
  mo : E.mo = 64
  ch : E.ch = 24
  len : E.M.length ≤ i
  none_ : ∀ j y, i ≤ j → T[j]? = some y → lookM E.M y.id = none
theorem FolS.new (T : List Se) : FolS T 0 ⟨64, 24, []⟩ := ⟨rfl, rfl, Nat.le_refl _, fun j y _ _ => rfl⟩
/-- within a series -/
structure FolM (T : List Se) (i : Nat) (x : Nat) (E : BD) (F : CsT) : Prop where
  mo : E.mo = 64
  ch : E.ch = 24
  len : E.M.length ≤ i ∨ (lookM E.M x).isSome ∧ E.M.length ≤ i + 1
  at_ : E.at_ x = F
  none_ : ∀ j y, i < j → T[j]? = some y → lookM E.M y.id = none
theorem FolS.go {T : List Se} {i : Nat} {E : BD} (h : FolS T i E) {y : Se} (hy : T[i]? = some y) : FolM T i y.id E [[]] :=
  ⟨h.mo, h.ch, .inl h.len, by unfold BD.at_; rw [h.none_ i y (Nat.le_refl _) hy]; rfl, fun j z hj hz => h.none_ j z (Nat.le_of_lt hj) hz⟩
theorem FolM.full {T : List Se} {i x : Nat} {E : BD} {F : CsT} (h : FolM T i x E F) (hi : i < 64) : fullD E x = false := by
  unfold fullD
  rw [decide_eq_false_iff_not]
  rintro ⟨h1, h2⟩
  rw [h.mo] at h2
  rcases h.len with h3 | h3
  · omega
  · cases hl : lookM E.M x with
    | none => rw [hl] at h3; exact absurd h3.1 (by decide)
    | some a => rw [hl] at h1; cases h1
theorem FolM.put {T : List Se} {i x : Nat} {E : BD} {F : CsT} (h : FolM T i x E F) (hd : ∀ j y, i < j → T[j]? = some y → y.id ≠ x) (G : CsT) : FolM T i x ⟨E.mo, E.ch, putM E.M x G⟩ G := by
  refine ⟨h.mo, h.ch, .inr ⟨?_, ?_⟩, ?_, fun j y hj hy => ?_⟩
  · show (lookM (putM E.M x G) x).isSome = true
    rw [look_put, if_pos rfl]
    rfl
  · show (putM E.M x G).length ≤ i + 1
    rw [put_len]
    rcases h.len with h3 | h3
    · split <;> omega
    · rw [if_pos h3.1]; exact h3.2
  · unfold BD.at_
    show ((lookM (putM E.M x G) x).getD [[]]) = G
    rw [look_put, if_pos rfl]
    rfl
  · show lookM (putM E.M x G) y.id = none
    rw [look_put, if_neg (hd j y hj hy)]
    exact h.none_ j y hj hy
theorem FolM.next {T : List Se} {i x : Nat} {E : BD} {F : CsT} (h : FolM T i x E F) : FolS T (i + 1) E :=
  ⟨h.mo, h.ch, by rcases h.len with h3 | h3 <;> omega, fun j y hj hy => h.none_ j y hj hy⟩
/-- the series are told once each -/
theorem la_apart {sz k : Nat} {D : BD} (hLa : LaI sz k D) {T : List Se} (hT : T.map seD = allD D) {i j : Nat} {y z : Se} (hy : T[i]? = some y) (hz : T[j]? = some z) (hij : i < j) : z.id ≠ y.id := by
  have h1 := allD_get D i
  have h2 := allD_get D j
  rw [← hT, List.getElem?_map, hy] at h1
  rw [← hT, List.getElem?_map, hz] at h2
  obtain ⟨a, ha, ha2⟩ := Option.map_eq_some_iff.1 h1.symm
  obtain ⟨b, hb, hb2⟩ := Option.map_eq_some_iff.1 h2.symm
  have e1 : a.1 = y.id := congrArg Prod.fst ha2
  have e2 : b.1 = z.id := congrArg Prod.fst hb2
  rw [← e1, ← e2]
  intro e
  obtain ⟨hi, ha3⟩ := List.getElem?_eq_some_iff.1 ha
  obtain ⟨hj, hb3⟩ := List.getElem?_eq_some_iff.1 hb
  have hn := List.pairwise_iff_getElem.1 hLa.ok.nd i j (by rw [List.length_map]; exact hi) (by rw [List.length_map]; exact hj) hij
  rw [List.getElem_map, List.getElem_map, ha3, hb3] at hn
  exact hn e.symm
end Go.Proofs.YtiipmjdmmoaodaaDoor

/- Layer 12: walk of BookFollows. -/
set_option linter.unusedSimpArgs false
set_option linter.unusedVariables false
namespace Go.Proofs.YtiipmjdmmoaodaaDoor
open Go.RowKit
set_option maxRecDepth 100000

theorem run_frontS {A : Option Addr} {n c : Nat} {L : List Sm} {w0 : World} (h : OwnR w0 0 66 smp 2 (.slice A n c) L) (k : Nat) (hk : k ≤ n) (w : World) : (Instr.slice 31 (.slice A n c) none (some (.int .i64 k)) none).run Tryd.prog w = .ok (.slice A k c) w := by
  have hi : (Tryd.prog.info? 66).map (fun i => i.size) = some 2 := by kernel_rfl
  have hs : (sizeOf (Tryd.prog.elem 31)).run Tryd.prog w = .ok 2 w := by
    have e : Tryd.prog.elem 31 = 66 := by kernel_rfl
    rw [e]
    obtain ⟨i, h1, h2⟩ := Option.map_eq_some_iff.1 hi
    simp [sizeOf, typeInfo, h1, h2]
  rcases h.2 with ⟨h1, h2⟩ | ⟨g, cap, cur, h1, _, _, h4, _⟩
  · injection h1 with e1 e2 e3
    subst e1; subst e2; subst e3
    obtain rfl : k = 0 := by omega
    show (Instr.slice 31 (.slice none 0 0) none (some (.int .i64 (0 : Int))) none).run Tryd.prog w = .ok (.slice none 0 0) w
    rw [run_slice_h w 31 none 0 0 Tryd.underlying31 .i64 0 (by omega) (by omega), hs]
    rfl
  · injection h1 with e1 e2 e3
    subst e1; subst e3
    rw [run_slice_h w 31 (some ⟨g, 0, none⟩) n c Tryd.underlying31 .i64 (k : Nat) (by omega) (by omega), hs]
    simp only [Result.andThen, sliced, Int.toNat_natCast, Nat.zero_mul, Nat.sub_zero]
    congr 2
    split
    · rfl
    · simp [Addr.add]
theorem Rw.take {α : Type} {w : World} {enc : α → List Value} {sz : Nat} {V : Option Addr} {l : List α} (h : Rw w enc sz V l) (k : Nat) : Rw w enc sz V (l.take k) := fun i x hi => h i x (by
  rw [List.getElem?_take] at hi
  split at hi
  · exact hi
  · cases hi)
set_option maxHeartbeats 32000000 in
theorem bookFollows_walk (size : Int) (V : Option Addr) (c : Nat) (l : List OB) (U : Option Addr) (d : Nat) (cuts : List Nat) (w : World) (hsz : in64 size) (hV : Rw w encOB 17 V l) (hok : ∀ o ∈ l, OkOB o) (hU : Rw w encH 1 U cuts) (hcu : ∀ x ∈ cuts, x < 65536) (hT : Tab w) :
    Calls Tryd.prog 5 #[.int .i64 size, .slice V l.length c, .slice U cuts.length d] w fun e w' => e = .returned (.bool true) ∧ Below w.heap.size w w' := by
  have hmx : Tryd.prog.follows .mixedOrders = true := by kernel_rfl
  have HH := Lib.hid (heavyB_any V c l w hV)
  have HKn := Lib.hid (bknown_any w hT)
  have HV := Lib.hid (And.intro hsz (And.intro hV (And.intro hok hT)))
  obtain ⟨n, hn⟩ : ∃ n, n = l.length := ⟨_, rfl⟩
  have HN := Lib.hid hn
  rw [← hn] at HH ⊢
  obtain ⟨cn0, hcn0⟩ : ∃ n, n = cuts.length := ⟨_, rfl⟩
  rw [← hcn0]
  have HU := Lib.hid (And.intro hU (And.intro hcu hcn0))
  clear hsz hV hok hT hn hU hcu hcn0
  go_enter Tryd.func5, Tryd.ntmps5
  by_cases h80 : cn0 ≤ 80
  rotate_left
  · have h80b : (80 : Int) < (cn0 : Int) := by omega
    go_wp2_with ((first | (go_at_call 7; refine HH.out.mono ?_; rintro e w1 ⟨r, rfl, rfl, hr⟩; cases r) | (go_at_call 8; refine HKn.out.mono ?_; rintro e w2 ⟨rfl, b2⟩)))
    all_goals first | (go_ret; exact ⟨rfl, b2⟩) | skip
  have h80b : ¬ (80 : Int) < (cn0 : Int) := by omega
  go_upto_region 1 with fail
  go_upto_if 35 with ((first | (go_at_call 7; refine HH.out.mono ?_; rintro e w1 ⟨r, rfl, rfl, hr⟩; cases r) | (go_at_call 8; refine HKn.out.mono ?_; rintro e w2 ⟨rfl, b2⟩)))
  rotate_left
  · go_wp2_with (go_at_call 8; refine HKn.out.mono ?_; rintro e w2 ⟨rfl, b2⟩)
    go_ret
    exact ⟨rfl, b2⟩
  have h60 := hr trivial
  have HLy := Lib.hid (bLay_any (Sep.nil b2 b2.size) HV.out.2.2.2 (Nat.le_refl _) size HV.out.1 V c l HV.out.2.1 HV.out.2.2.1 h60)
  rw [← HN.out] at HLy
  clear hr b2 HKn HH
  go_upto_region 4 with (go_at_call 9; refine HLy.out.mono ?_; rintro e w3 ⟨q, T, A, cc, rfl, hTD, hB⟩)
  obtain ⟨D, hD⟩ : ∃ D, D = laD (laSz size) l := ⟨_, rfl⟩
  have hLa : LaI (laSz size) l.length D := by
    have h1 : 1 ≤ laSz size ∧ laSz size ≤ 24 := by unfold laSz; omega
    have := laD_ok h1.1 h1.2 l HV.out.2.2.1 l.length (Nat.le_refl _) (by omega)
    rw [List.take_length, ← hD] at this
    exact this
  rw [← hD] at hTD hB
  rw [List.append_nil] at hB
  obtain ⟨tn, htn⟩ : ∃ n, n = T.length := ⟨_, rfl⟩
  rw [← htn] at hB ⊢
  have HL := Lib.hid (And.intro hLa (And.intro hTD htn))
  have hNw := Lib.hid (bk2_new hB 64 24 (by decide) (by decide) (by decide) (by decide))
  have htn64 : tn ≤ 64 := by
    have h1 := hLa.ok.few
    have h2 := hLa.ok.mo2
    have h3 := congrArg List.length hTD
    rw [List.length_map, allD_len] at h3
    omega
  have H60 := Lib.hid h60
  clear h60 hD hLa hTD htn hB HLy
  have h60b : n ≤ 60 := by rw [HN.out]; exact H60.out
  go_wp2_with (go_at_call 19; refine hNw.out.mono ?_; rintro e w4 ⟨p, rfl, hB2⟩)
  have HB := Lib.hid hB2
  clear hB2 hNw
  go_loopw [10, 11, 12, 13, 14, 15, 16, 17, 18, 19, 20, 21, 22, 23, 24] (fun s10 s11 s12 s13 s14 s15 s16 s17 s18 s19 s20 s21 s22 s23 s24 wr => ∃ (i k : Nat) (E : BD), s11 = .int .i64 (i : Nat) ∧ i ≤ tn ∧ s10 = .int .i64 (k : Nat) ∧ k ≤ 100 * i ∧ Hid (FolS T i E ∧ Bk2 w1.heap.size w1 wr q D p E (laT (.slice A tn cc) T)))
    (fun _ s11 _ _ _ _ _ _ _ _ _ _ _ _ _ _ => tn - (intOf s11).toNat)
  case atStart => exact ⟨0, 0, _, by go_num, Nat.zero_le _, by go_num, Nat.zero_le _, Lib.hid ⟨FolS.new T, HB.out⟩⟩
  case round =>
    obtain ⟨i, k, E0, rfl, hi, rfl, hk, HBr⟩ := hrel
    obtain ⟨wo, hwo⟩ : ∃ wo, wo = wr := ⟨_, rfl⟩
    rw [← hwo] at HBr ⊢
    clear hwo
    by_cases hit : i < tn
    rotate_left
    · have hit2 : ¬ (i : Int) < (tn : Int) := by omega
      have HE := Lib.hid HBr.out.2.b
      go_wp2_with fail
      go_ret
      exact ⟨rfl, HE.out⟩
    · obtain ⟨y0, hy0⟩ : ∃ y, T[i]? = some y := ⟨_, List.getElem?_eq_getElem (by rw [← HL.out.2.2]; exact hit)⟩
      obtain ⟨gr, hgr, -, -⟩ := row_at Tryd.eltSe (HBr.out.2.sep.at_ (t := thR 33 encSe 2 (.slice A tn cc) T) 0 rfl) hy0
      subst hgr
      have hk0 := la_key HL.out.1 HL.out.2.1 hy0
      have hap : ∀ j y, i < j → T[j]? = some y → y.id ≠ y0.id := fun j y hj hy => la_apart HL.out.1 HL.out.2.1 hy0 hy hj
      have hfo := HBr.out.1.go hy0
      obtain ⟨id, hid⟩ : ∃ x, x = y0.id := ⟨_, rfl⟩
      rw [← hid] at hk0 hap hfo
      have hid64 : id < 64 := hk0.1
      have hoc := HL.out.1.ok.at_ id
      obtain ⟨C, hC⟩ : ∃ C, C = D.at_ id := ⟨_, rfl⟩
      have hfl : C.flatten.length ≤ 60 := by
        have h1 := HL.out.1.len id
        rw [← hC] at h1
        have h2 := HN.out
        omega
      have h24 : ∀ L ∈ C, L.length ≤ 24 := by
        have h1 := HL.out.1.full id
        have h2 := HL.out.1.last id
        have h3 : laSz size ≤ 24 := by unfold laSz; omega
        rw [← hC] at h1 h2 hoc
        intro L hL
        rw [← cs_split hoc.ne] at hL
        rcases List.mem_append.1 hL with hL | hL
        · rw [h1 L hL]; exact h3
        · rw [List.mem_singleton.1 hL]; omega
      rw [← hC] at hoc
      have hflat : C.flatten = y0.L := by rw [hC]; exact hk0.2.1
      have hyn : y0.n = y0.L.length ∧ y0.L.length ≤ 60 := by
        have hr := HBr.out.2.sep.get (t := seT y0) (List.mem_cons_of_mem _ (List.mem_map.2 ⟨y0, List.mem_of_getElem? hy0, rfl⟩))
        obtain ⟨A2, c2, e2, -, -⟩ := OwnR.row Tryd.eltS hr
        injection e2 with _ e3 _
        exact ⟨e3, by rw [← hflat]; exact hfl⟩
      obtain ⟨yl, hyl⟩ : ∃ x, x = y0.L.length := ⟨_, rfl⟩
      have hyl60 : yl ≤ 60 := by rw [hyl]; exact hyn.2
      have cells : ∀ (W : World) (us : List Kt), Sep w1.heap.size w1 W (us ++ laT (.slice (some ⟨gr, 0, none⟩) tn cc) T) → W.cell? ⟨gr, i * 2, none⟩ = some (.int .u32 (id : Nat)) ∧ W.cell? ⟨gr, i * 2 + 1, none⟩ = some (.slice y0.A yl y0.c) ∧ OwnR W 0 66 smp 2 (.slice y0.A yl y0.c) y0.L := fun W us hW => by
        have hrow := hW.get (t := thR 33 encSe 2 (.slice (some ⟨gr, 0, none⟩) tn cc) T) (List.mem_append.2 (.inr List.mem_cons_self))
        refine ⟨?_, ?_, ?_⟩
        · rw [hid]
          exact row_cellE Tryd.eltSe hrow hy0 0 _ rfl
        · rw [hyl, ← hyn.1]
          exact row_cellE Tryd.eltSe hrow hy0 1 _ rfl
        · have hr := hW.get (t := seT y0) (List.mem_append.2 (.inr (List.mem_cons_of_mem _ (List.mem_map.2 ⟨y0, List.mem_of_getElem? hy0, rfl⟩))))
          rw [hyl, ← hyn.1]
          exact hr
      have HCe := Lib.hid cells
      have HC := Lib.hid (And.intro hoc (And.intro hC (And.intro hfl (And.intro h24 (And.intro hap (And.intro hflat hyl))))))
      have C1 := (cells wo [] HBr.out.2.sep).1
      have hit2 : (i : Int) < (tn : Int) := by omega
      have HFo := Lib.hid hfo
      clear hy0 hid hk0 hoc hC hfl h24 hap hflat hyn hyl cells hfo
      go_upto_region 13 with fail
      have hB1 := HBr.out.2.box #[.int .u32 0, .int .u32 0, .int .u32 0] 35
      generalize hV1 : World.alloc _ _ = V1 at hB1 ⊢
      obtain ⟨g13, hg13⟩ : ∃ g, g = wo.heap.size := ⟨_, rfl⟩
      rw [← hg13] at hB1 ⊢
      have HB1 := Lib.hid hB1
      clear hV1 hg13 hB1 C1
      go_wp2_with fail
      go_loopw [10, 14, 15, 16, 17, 18, 19, 20, 21, 22, 23, 24] (fun s10 s14 s15 s16 s17 s18 s19 s20 s21 s22 s23 s24 wi => ∃ (j pc pb pn k2 : Nat) (E : BD), s14 = .int .i64 (j : Nat) ∧ s10 = .int .i64 (k2 : Nat) ∧ pc < 4294967296 ∧ pb < 4294967296 ∧ pn < 4294967296 ∧ j ≤ 60 ∧ k2 ≤ 100 * i + j ∧ Hid (j ≤ ahC C pc pn ∧ ahC C pc pn ≤ C.flatten.length ∧ hasC C pc pb pn = true ∧ FolM T i id E (cutAt C pc pn) ∧ Bk2 w1.heap.size w1 wi q D p E (thB g13 35 #[.int .u32 (pc : Nat), .int .u32 (pb : Nat), .int .u32 (pn : Nat)] :: laT (.slice (some ⟨gr, 0, none⟩) tn cc) T)))
        (fun _ s14 _ _ _ _ _ _ _ _ _ _ _ => 100 - (intOf s14).toNat)
      case atStart => exact ⟨0, 0, 0, 0, k, E0, by go_num, rfl, by decide, by decide, by decide, Nat.zero_le _, hk, Lib.hid ⟨Nat.zero_le _, Nat.zero_le _, has_first HC.out.1, by rw [cutAt_zero HC.out.1.ne]; exact HFo.out, HB1.out⟩⟩
      case round =>
        obtain ⟨j, pc, pb, pn, k2, E, rfl, rfl, hpc, hpb, hpn, hj60, hk2, HI⟩ := hrel
        obtain ⟨wi, hwi⟩ : ∃ wi, wi = wr := ⟨_, rfl⟩
        rw [← hwi] at HI ⊢
        clear hwi
        have hBi := HI.out.2.2.2.2
        have C2 : ∀ y : More, cellsSay (plus wi y) g13 0 [.int .u32 (pc : Nat), .int .u32 (pb : Nat), .int .u32 (pn : Nat)] := fun y => cells_say ((hBi.go (plus_below wi y)).sep.blk 0) _ 0 rfl
        simp only [cellsSay, Nat.reduceAdd, and_true] at C2
        have hE := fun (y : More) => ext_of (bk_end (hBi.fst.choose_spec.go (plus_below wi y)) id (by omega))
        rw [← HC.out.2.1] at hE
        by_cases he : (pc, pb, pn) = endC C
        · rw [← he] at hE
          have HE := Lib.hid hE
          have hQ2 : ∀ w, (binOp .neq 35 (.agg #[.int .u32 (pc : Nat), .int .u32 (pb : Nat), .int .u32 (pn : Nat)]) (.agg #[.int .u32 (pc : Nat), .int .u32 (pb : Nat), .int .u32 (pn : Nat)])).run Tryd.prog w = .ok (.bool false) w := fun w => by rw [nePlB_run, decide_eq_true rfl]; rfl
          have hall := cutAt_all HC.out.1.ne he
          have HHe := Lib.hid hall
          clear hE he hBi hall
          go_wp2_with fail
          refine wp_region_ext (by kernel_rfl) (by kernel_rfl) ?_
          repeat (go_big_quiet_step ((go_at_call 11; exact HE.out _)))
          refine wpQuiet_nil ?_
          rintro wz ⟨yz, hwz⟩
          have HBz := Lib.hid (HI.out.2.2.2.2.go (show Below wi.heap.size wi wz by rw [hwz]; exact plus_below wi yz))
          clear C2 hwz HE hQ2
          go_upto_region 30 with fail
          obtain ⟨I, hI⟩ : ∃ I : Rec → World → Prop, ∀ E' W, I E' W ↔ (Bk2 w1.heap.size w1 W q D p E (thB g13 35 #[.int .u32 (pc : Nat), .int .u32 (pb : Nat), .int .u32 (pn : Nat)] :: laT (.slice (some ⟨gr, 0, none⟩) tn cc) T) ∧ ∀ u, E' 2 = some u → ∃ U n, u = .slice U yl n ∧ Rw W smp 2 U y0.L) := ⟨_, fun _ _ => Iff.rfl⟩
          have hI0 : I (fun _ => none) wz.drew := (hI _ _).2 ⟨HBz.out.go (Below.refl _ _).drew, fun u h => by cases h⟩
          haveI : Nonempty (InvW I) := ⟨⟨_, _, hI0⟩⟩
          have e2 := fun (y : InvW I) => (HCe.out y.W [_] ((hI _ _).1 y.h).1.sep).2.1
          have HI2 := Lib.hid hI
          clear hI
          refine wp_region_inv I [[], [], [], [], [], [], [], [], [2]] [2, 5, 8] (fun k2 v => if k2 = 8 then v = .bool true else if k2 = 2 then ∃ U n, v = .slice U yl n else v = .pointer (some ⟨gr, i * 2, none⟩)) hmx (by kernel_rfl) hI0 ?_
          iterate 2 (refine walkJ_one rfl (by kernel_rfl) ?_; go_big_quiet_step (fail); refine wpQuiet_nil ?_)
          refine walkJ_turn rfl rfl ⟨_, none, 0, rfl⟩ (fun s W1 hs h7 _ => ?_) ?_
          · obtain ⟨h, -⟩ := (HI2.out _ _).1 hs
            have hsm := bk_samples h.snd.choose_spec (tabGo HV.out.2.2.2 h.b) id (by omega)
            rw [HI.out.2.2.2.1.at_, HHe.out, HC.out.2.2.2.2.2.1, ← HC.out.2.2.2.2.2.2] at hsm
            refine inv_call (by simp [execOp, go_sem]) (hsm.mono ?_)
            rintro e w5 ⟨U, n5, rfl, ho, b5⟩
            refine ⟨_, rfl, ⟨U, n5, rfl⟩, (HI2.out _ _).2 ⟨h.go b5, fun u hu => ?_⟩⟩
            rw [recSet_same] at hu
            injection hu with hu
            obtain ⟨U2, n2, e3, -, h3⟩ := OwnR.row Tryd.eltS ho
            injection e3 with e4 _ _
            exact ⟨U, n5, hu.symm, by rw [e4]; exact h3⟩
          rintro v ⟨U5, n5, rfl⟩
          conv => arg 11; simp [Act.put]
          iterate 2 (refine walkJ_one rfl (by kernel_rfl) ?_; go_big_quiet_step (fail); refine wpQuiet_nil ?_)
          refine walkJ_turn rfl rfl ⟨_, rfl⟩ (fun s W1 hs h7 _ => ?_) ?_
          · obtain ⟨h, h2⟩ := (HI2.out _ _).1 hs
            exact inv_val (W' := W1) (v := .pointer (some ⟨gr, i * 2, none⟩)) (by simp [execOp, go_sem, hit2]) ⟨rfl, (HI2.out _ _).2 ⟨h, fun u hu => h2 u (by rw [recSet_ne (by decide)] at hu; exact hu)⟩⟩
          rintro v rfl
          conv => arg 11; simp [Act.put]
          iterate 2 (refine walkJ_one rfl (by kernel_rfl) ?_; go_big_quiet_step (fail); refine wpQuiet_nil ?_)
          refine walkJ_turn rfl rfl ⟨_, rfl⟩ (fun s W1 hs h7 hch => ?_) ?_
          · obtain ⟨h, h2⟩ := (HI2.out _ _).1 hs
            obtain ⟨U6, n6, e6, hU6⟩ := h2 _ ((hch 2 (by simp)).trans rfl)
            injection e6 with e7 _ e8
            rw [← e7] at hU6
            obtain ⟨A8, c8, e9, -, hrw⟩ := OwnR.row Tryd.eltS (HCe.out W1 [_] h.sep).2.2
            injection e9 with e10 _ _
            refine inv_call (by simp [execOp, go_sem]) ((csame_eq U5 y0.A yl n5 y0.c y0.L W1 HC.out.2.2.2.2.2.2 hU6 (by rw [e10]; exact hrw) (by rw [← HC.out.2.2.2.2.2.2]; omega)).mono ?_)
            rintro e w6 ⟨rfl, b6⟩
            refine ⟨_, rfl, rfl, (HI2.out _ _).2 ⟨h.go b6, fun u hu => ?_⟩⟩
            rw [recSet_ne (by decide)] at hu
            obtain ⟨U7, n7, e7, h7⟩ := h2 u hu
            exact ⟨U7, n7, e7, h7.below b6 (Nat.le_refl _)⟩
          rintro v rfl
          conv => arg 11; simp [Act.put]
          iterate 1 (refine walkJ_one rfl (by kernel_rfl) ?_; go_big_quiet_step (fail); refine wpQuiet_nil ?_)
          refine walkJ_end ?_
          intro wp hW'
          have HBp := Lib.hid ((HI2.out _ _).1 hW').1
          clear e2 hW' HI2 hI0
          go_wp2_with fail
          go_roundw
          case measure => simp [intOf]; omega
          case rel => exact ⟨i + 1, k2, E, by go_num, by omega, rfl, by omega, Lib.hid ⟨HI.out.2.2.2.1.next, HBp.out.tail⟩⟩
        · obtain ⟨⟨e1, e2, e3⟩, hee⟩ : ∃ E, E = endC C := ⟨_, rfl⟩
          have HEe := Lib.hid he
          rw [← hee] at hE he
          have HE := Lib.hid hE
          have hQ2 : ∀ w, (binOp .neq 35 (.agg #[.int .u32 (pc : Nat), .int .u32 (pb : Nat), .int .u32 (pn : Nat)]) (.agg #[.int .u32 (e1 : Nat), .int .u32 (e2 : Nat), .int .u32 (e3 : Nat)])).run Tryd.prog w = .ok (.bool true) w := fun w => by rw [nePlB_run, decide_eq_false he]; rfl
          clear hE he hBi hee
          go_wp2_with fail
          refine wp_region_ext (by kernel_rfl) (by kernel_rfl) ?_
          repeat (go_big_quiet_step ((go_at_call 11; exact HE.out _)))
          refine wpQuiet_nil ?_
          rintro wz ⟨yz, hwz⟩
          have HBz := Lib.hid (HI.out.2.2.2.2.go (show Below wi.heap.size wi wz by rw [hwz]; exact plus_below wi yz))
          clear C2 hwz HE hQ2
          go_upto_if 71 with fail
          go_cut [10, 15] from 71 to 81 (fun s10 s15 wx => ∃ mo k3 : Nat, s10 = .int .i64 (k3 : Nat) ∧ s15 = .int .i64 (mo : Nat) ∧ mo < 65536 ∧ k3 ≤ k2 + 1 ∧ wx = wz)
          case first =>
            by_cases h0 : cn0 = 0
            · have hd : ¬ (0 : Int) < (cn0 : Int) := by omega
              have hd3 : ¬ 0 < cn0 := by omega
              have hd4 : decide ((0 : Int) < (cn0 : Int)) = false := decide_eq_false hd
              clear h0
              go_wp2_with fail
              go_meet
              exact ⟨200, k2, rfl, rfl, by decide, by omega, rfl⟩
            · have hd : (0 : Int) < (cn0 : Int) := by omega
              obtain ⟨kr, hkr⟩ : ∃ r, r = k2 % cn0 := ⟨_, rfl⟩
              have hkr2 : kr < cn0 := by rw [hkr]; exact Nat.mod_lt _ (by omega)
              obtain ⟨x, hx⟩ : ∃ x, cuts[kr]? = some x := ⟨_, List.getElem?_eq_getElem (by rw [← HU.out.2.2]; exact hkr2)⟩
              obtain ⟨pU, oU, hpU, hcU⟩ := HU.out.1 kr x hx
              subst hpU
              have C3 : wz.cell? ⟨pU, oU + kr, none⟩ = some (.int .u16 (x : Nat)) := by
                have h1 := hcU 0 _ rfl
                rw [Nat.mul_one, Nat.add_zero] at h1
                exact HBz.out.sep.old (Nat.le_refl _) h1
              have hx6 := HU.out.2.1 x (List.mem_of_getElem? hx)
              have hkr3 : ((k2 : Int) % (cn0 : Int)) = (kr : Int) := by rw [hkr]; exact (Int.natCast_emod k2 cn0).symm
              have hkr4 : (kr : Int) < (cn0 : Int) := by omega
              have hcn4 : ¬ (cn0 : Int) = 0 := by omega
              have HX := Lib.hid (And.intro hx6 hkr)
              clear hx hcU hkr
              go_wp2_with fail
              go_meet
              exact ⟨x, k2 + 1, by go_num, rfl, HX.out.1, by omega, rfl⟩
          case rest =>
            obtain ⟨mo, k3, rfl, rfl, hmo, hk3, hwc⟩ := hcut
            rw [hwc]
            clear hwc
            have hCI := (cut_mainI (x := id) (most := ((mo : Nat) : Int)) HC.out.1 HI.out.2.2.1 HEe.out).1
            have hS := cut_sumsI (x := id) (most := ((mo : Nat) : Int)) HC.out.1 HI.out.2.2.1 HEe.out
            have hFi := fol_main (x := id) (most := ((mo : Nat) : Int)) HC.out.1 (by omega) HC.out.2.2.2.1 HI.out.2.2.1 HEe.out HI.out.2.2.2.1.at_ HI.out.2.2.2.1.ch (HI.out.2.2.2.1.full (by omega))
            obtain ⟨R, hR1⟩ : ∃ R, R = cutF id C pc pb pn ((mo : Nat) : Int) := ⟨_, rfl⟩
            rw [← hR1] at hS hCI hFi
            obtain ⟨⟨kd, ep, se, fc, fb, fn, cn, cl, sm, fl, nn⟩, ⟨t1, t2, t3⟩, er⟩ := R
            have her : er = 0 := hCI.er
            subst her
            have hse : se = id := hFi.se
            subst hse
            obtain ⟨M, -, -, -, -, -, -, hM7, hM8⟩ := hS
            have s1 : t1 < 4294967296 := hCI.s1
            have s2 : t2 < 4294967296 := hCI.s2
            have s3 : t3 < 4294967296 := hCI.s3
            replace hM7 : ahC C pc pn < ahC C t1 t3 := hM7
            replace hM8 : ahC C t1 t3 ≤ C.flatten.length := hM8
            have hhas : hasC C t1 t2 t3 = true := hCI.has
            have hnE : (E.at_ se).flatten.length + 24 ≤ 1000 := by
              rw [HI.out.2.2.2.1.at_, cutAt_flat HI.out.2.2.1, List.length_take]
              have := HC.out.2.2.1
              omega
            have HF := Lib.hid (And.intro hFi (And.intro hhas (And.intro hM7 (And.intro hM8 hnE))))
            have hCt := bk_cut HBz.out.fst.choose_spec se (by omega) pc pb pn ((mo : Nat) : Int) hpc hpb hpn (by unfold in64; omega)
            rw [← HC.out.2.1, ← hR1] at hCt
            have HCt := Lib.hid hCt
            have D1 := cells_say (HBz.out.sep.blk 0) _ 0 rfl
            simp only [cellsSay, List.drop_zero, Nat.reduceAdd, and_true] at D1
            clear hCI hFi hhas hM7 hM8 hnE hCt hR1
            go_upto_region 21 with (go_at_call 12; refine HCt.out.mono ?_; rintro e w5 ⟨⟨A3, c3, rfl, ho⟩, b5⟩; simp only [frC])
            have hK := ((HBz.out.go b5).box #[.int .u8 ((kd : Nat) : Int), .int .u32 ((ep : Nat) : Int), .int .u32 ((se : Nat) : Int), .int .u32 ((fc : Nat) : Int), .int .u32 ((fb : Nat) : Int), .int .u32 ((fn : Nat) : Int), .int .u32 ((cn : Nat) : Int), .bool cl, .int .u64 ((sm : Nat) : Int), .slice A3 fl.length c3, .int .i64 nn] 45).box #[.int .u32 ((t1 : Nat) : Int), .int .u32 ((t2 : Nat) : Int), .int .u32 ((t3 : Nat) : Int)] 35
            have bV := (below_alloc2 w5 (.cells #[.int .u8 ((kd : Nat) : Int), .int .u32 ((ep : Nat) : Int), .int .u32 ((se : Nat) : Int), .int .u32 ((fc : Nat) : Int), .int .u32 ((fb : Nat) : Int), .int .u32 ((fn : Nat) : Int), .int .u32 ((cn : Nat) : Int), .bool cl, .int .u64 ((sm : Nat) : Int), .slice A3 fl.length c3, .int .i64 nn] 45) (.cells #[.int .u32 ((t1 : Nat) : Int), .int .u32 ((t2 : Nat) : Int), .int .u32 ((t3 : Nat) : Int)] 35))
            rw [World.size_alloc] at hK
            generalize hV6 : World.alloc (World.alloc _ _) _ = V6 at hK bV ⊢
            obtain ⟨g5, hg5⟩ : ∃ g, g = w5.heap.size := ⟨_, rfl⟩
            obtain ⟨g6, hg6⟩ : ∃ g, g = w5.heap.size + 1 := ⟨_, rfl⟩
            rw [← hg6, ← hg5] at hK ⊢
            have hbs : Bs V6 A3 fl := ho.bs.below bV
            have hTk := bk2_take hK (tabGo HV.out.2.2.2 hK.b) ⟨kd, ep, se, fc, fb, fn, cn, cl, sm, fl, nn⟩ HF.out.1.ok A3 c3 hbs HF.out.1.ll HF.out.2.2.2.2
            have h0 : (fitD E ⟨kd, ep, se, fc, fb, fn, cn, cl, sm, fl, nn⟩).1 = 0 := HF.out.1.fit
            have hE2 : takeD E ⟨kd, ep, se, fc, fb, fn, cn, cl, sm, fl, nn⟩ = ⟨E.mo, E.ch, putM E.M se (cutAt C t1 t3)⟩ := HF.out.1.data
            have hFM := HI.out.2.2.2.1.put HC.out.2.2.2.2.1 (cutAt C t1 t3)
            rw [← hE2] at hFM
            obtain ⟨E2, hE3⟩ : ∃ X, X = takeD E ⟨kd, ep, se, fc, fb, fn, cn, cl, sm, fl, nn⟩ := ⟨_, rfl⟩
            rw [h0, ← hE3] at hTk
            rw [← hE3] at hFM
            have HTk := Lib.hid hTk
            have HFM := Lib.hid hFM
            have C5 := cells_say (hK.sep.blk 1) _ 0 rfl
            simp only [cellsSay, List.drop_zero, Nat.reduceAdd, and_true] at C5
            clear hV6 hg5 hg6 b5 bV hbs hTk h0 hE2 hFM hE3 hK ho D1 HBz HCt
            go_upto_region 22 with (go_at_call 20; refine HTk.out.mono ?_; rintro e w6 ⟨rfl, hK6⟩)
            obtain ⟨m, hm⟩ : ∃ m, m = ahC C t1 t3 := ⟨_, rfl⟩
            have hmy : m ≤ yl := by rw [hm, HC.out.2.2.2.2.2.2, ← HC.out.2.2.2.2.2.1]; exact HF.out.2.2.2.1
            have hmf : (E2.at_ se).flatten = y0.L.take m := by rw [HFM.out.at_, cutAt_flat HF.out.2.1, HC.out.2.2.2.2.2.1, hm]
            have hml : (y0.L.take m).length = m := by rw [List.length_take, ← HC.out.2.2.2.2.2.2]; omega
            have hSm := bk_samples hK6.snd.choose_spec (tabGo HV.out.2.2.2 hK6.b) se (by omega)
            rw [hmf, hml] at hSm
            have HSm := Lib.hid hSm
            have HK6 := Lib.hid hK6
            have HM := Lib.hid (And.intro hm hml)
            clear hSm hK6 hm hmf hml HTk C5
            go_upto_region 23 with (go_at_call 17; refine HSm.out.mono ?_; rintro e w8 ⟨U8, n8, rfl, ho8, b8⟩)
            have hK8 := HK6.out.go b8
            have C6 : ∀ y : More, cellsSay (plus w8 y) g6 0 [.int .u32 ((t1 : Nat) : Int), .int .u32 ((t2 : Nat) : Int), .int .u32 ((t3 : Nat) : Int)] := fun y => cells_say ((hK8.go (plus_below w8 y)).sep.blk 0) _ 0 rfl
            simp only [cellsSay, Nat.reduceAdd, and_true] at C6
            have C7 : ∀ y : More, (plus w8 y).cell? ⟨gr, i * 2 + 1, none⟩ = some (.slice y0.A yl y0.c) := fun y => (HCe.out _ [_, _, _] (hK8.go (plus_below w8 y)).sep).2.1
            have hsl : ∀ w, (Instr.slice 31 (.slice y0.A yl y0.c) none (some (.int .i64 (m : Nat))) none).run Tryd.prog w = .ok (.slice y0.A m y0.c) w := fun w => run_frontS (HCe.out _ [_, _, _] hK8.sep).2.2 m hmy w
            have hSa := fun (y : More) => ext_of (csame_eq U8 y0.A m n8 y0.c (y0.L.take m) (plus w8 y) HM.out.2.symm (by
                obtain ⟨U2, n2, e3, -, h3⟩ := OwnR.row Tryd.eltS ho8
                injection e3 with e4 _ _
                rw [e4]
                exact h3.below (plus_below w8 y) (Nat.le_refl _)) (by
                obtain ⟨A8, c8, e9, -, hrw⟩ := OwnR.row Tryd.eltS (HCe.out _ [_, _, _] (hK8.go (plus_below w8 y)).sep).2.2
                injection e9 with e10 _ _
                rw [e10]
                exact hrw.take m) (by rw [HM.out.2]; omega))
            have hEn := fun (y : More) => ext_of (bk_end (hK8.snd.choose_spec.go (plus_below w8 y)) se (by omega))
            rw [HFM.out.at_, cutAt_end HF.out.2.1] at hEn
            have hQ3 : ∀ w, (binOp .neq 35 (.agg #[.int .u32 (t1 : Nat), .int .u32 (t2 : Nat), .int .u32 (t3 : Nat)]) (.agg #[.int .u32 (t1 : Nat), .int .u32 (t2 : Nat), .int .u32 (t3 : Nat)])).run Tryd.prog w = .ok (.bool false) w := fun w => by rw [nePlB_run, decide_eq_true rfl]; rfl
            have HSa := Lib.hid hSa
            have HEn := Lib.hid hEn
            have HK8 := Lib.hid hK8
            have hj100 : ¬ (100 : Int) < (j : Int) := by omega
            have hj100b : decide ((100 : Int) < (j : Int)) = false := decide_eq_false hj100
            have hmy2 : decide (yl < m) = false := decide_eq_false (by omega)
            have hmy3 : ¬ (yl : Int) < (m : Int) := by omega
            clear hSa hEn hK8 b8 ho8 HSm HK6
            refine wp_region_ext (by kernel_rfl) (by kernel_rfl) ?_
            repeat (go_big_quiet_step (first | (go_at_call 16; exact HSa.out _) | (go_at_call 11; exact HEn.out _)))
            refine wpQuiet_nil ?_
            rintro wy ⟨yy, hwy⟩
            have hK9 := HK8.out.go (show Below w8.heap.size w8 wy by rw [hwy]; exact plus_below w8 yy)
            clear C6 C7 hsl hQ3 HSa HEn HK8 hwy
            obtain ⟨S, hS9⟩ : ∃ S, S = sumC C t1 t2 := ⟨_, rfl⟩
            have hSu := bk_sum hK9.fst.choose_spec se (by omega) t1 t2 t3 s1 s2 s3
            rw [← HC.out.2.1, HF.out.2.1, ← hS9] at hSu
            simp only [if_true] at hSu
            have hSv := fun (W : World) (hW : Below wy.heap.size wy W) => bk_sum (hK9.go hW).snd.choose_spec se (by omega) t1 t2 t3 s1 s2 s3
            have hsum : sumC (cutAt C t1 t3) t1 t2 = sumC C t1 t2 := HF.out.1.sum
            have hhs2 : hasC (cutAt C t1 t3) t1 t2 t3 = true := HF.out.1.has
            rw [HFM.out.at_, hhs2, hsum, ← hS9] at hSv
            simp only [if_true] at hSv
            have C6 := cells_say (hK9.sep.blk 0) _ 0 rfl
            simp only [cellsSay, List.drop_zero, Nat.reduceAdd, and_true] at C6
            have HK9 := Lib.hid hK9
            have HSu := Lib.hid hSu
            have HSv := Lib.hid hSv
            clear hS9 hSu hSv hsum hhs2 hK9
            go_upto_region 26 with (go_at_call 14; refine HSu.out.mono ?_; rintro e w9 ⟨rfl, b9⟩)
            have hKa := HK9.out.go b9
            have HSw := Lib.hid (HSv.out w9 b9)
            clear C6
            have C6 := cells_say (hKa.sep.blk 0) _ 0 rfl
            simp only [cellsSay, List.drop_zero, Nat.reduceAdd, and_true] at C6
            have HKa := Lib.hid hKa
            clear b9 HSv HSu HK9 hKa
            go_upto_region 27 with (go_at_call 14; refine HSw.out.mono ?_; rintro e w10 ⟨rfl, b10⟩)
            have hKb := HKa.out.go b10
            clear C6
            have C6 := cells_say (hKb.sep.blk 0) _ 0 rfl
            have C8 := cells_say (hKb.sep.blk 2) _ 0 rfl
            simp only [cellsSay, List.drop_zero, Nat.reduceAdd, and_true] at C6 C8
            have HKb := Lib.hid hKb
            clear b10 HSw HKa hKb
            go_wp2_with fail
            generalize hW9 : World.setCell _ _ _ = W9
            have hb9 := HKb.out.put_ 2 g13 [(0, .int .u32 ((t1 : Nat) : Int)), (1, .int .u32 ((t2 : Nat) : Int)), (2, .int .u32 ((t3 : Nat) : Int))] #[.int .u32 ((t1 : Nat) : Int), .int .u32 ((t2 : Nat) : Int), .int .u32 ((t3 : Nat) : Int)] hW9
            have h7 : ahC C pc pn < ahC C t1 t3 := HF.out.2.2.1
            have h8 : ahC C t1 t3 ≤ C.flatten.length := HF.out.2.2.2.1
            have h9 := HI.out.1
            have h10 := HC.out.2.2.1
            go_roundw
            case measure => simp [intOf]; omega
            case rel => exact ⟨j + 1, t1, t2, t3, k3, E2, by go_num, rfl, s1, s2, s3, by omega, by omega, Lib.hid ⟨by omega, h8, HF.out.2.1, HFM.out, hb9.tail.tail⟩⟩
end Go.Proofs.YtiipmjdmmoaodaaDoor
