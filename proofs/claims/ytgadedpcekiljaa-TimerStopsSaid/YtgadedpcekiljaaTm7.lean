/- Layer 14: the law's call on both sides. -/
import Derived.Test.YtgadedpcekiljaaTm6
import Derived.Test.YtgadedpcekiljaaFrameK
import Derived.Test.YtgadedpcekiljaaFrv
set_option linter.unusedSimpArgs false
set_option linter.unusedVariables false
namespace Go.Proofs.Ytgadedpcekiljaa
open Go.RowKit
set_option maxRecDepth 100000

abbrev bxP (tk b : Nat) (q : Nat) : Kt := thB q 48 #[.int .u64 (tk : Nat), .map (some b)]
abbrev bxR (rk : Nat) (A : Option Addr) (n c : Nat) (q : Nat) : Kt := thB q 52 #[.int .u64 (rk : Nat), .slice A n c]
abbrev rwR (A : Option Addr) (n c : Nat) (L : List (Nat × Nat × Nat)) : Kt := thR 57 encT 3 (.slice A n c) L
/-- the program's timers and the document's, beside other things -/
def Tb (B : Nat) (w0 w : World) (tq tk : Nat) (M : List (Nat × Nat × Nat)) (rq rk : Nat) (L : List (Nat × Nat × Nat)) (ts : List Kt) : Prop :=
  ∃ b A n c, n = L.length ∧ Sep B w0 w (bxP tk b tq :: thMu alV b M :: bxR rk A n c rq :: rwR A n c L :: ts)
section
variable {B : Nat} {w0 w w' : World} {tq tk rq rk : Nat} {M M' L L' : List (Nat × Nat × Nat)} {ts us : List Kt} {t : Kt}
theorem Tb.go (h : Tb B w0 w tq tk M rq rk L ts) (b : Below w.heap.size w w') : Tb B w0 w' tq tk M rq rk L ts := by
  obtain ⟨x, A, n, c, h1, h2⟩ := h
  exact ⟨x, A, n, c, h1, h2.go b⟩
theorem Tb.perm (h : Tb B w0 w tq tk M rq rk L ts) (hp : ts.Perm us) : Tb B w0 w tq tk M rq rk L us := by
  obtain ⟨x, A, n, c, h1, h2⟩ := h
  exact ⟨x, A, n, c, h1, srt_perm h2 ((((hp.cons _).cons _).cons _).cons _)⟩
theorem Tb.sub (h : Tb B w0 w tq tk M rq rk L ts) (hs : us.Sublist ts) : Tb B w0 w tq tk M rq rk L us := by
  obtain ⟨x, A, n, c, h1, h2⟩ := h
  exact ⟨x, A, n, c, h1, h2.sub ((((hs.cons_cons _).cons_cons _).cons_cons _).cons_cons _)⟩
theorem Tb.get (h : Tb B w0 w tq tk M rq rk L ts) (ht : t ∈ ts) : t.P w := by
  obtain ⟨x, A, n, c, h1, h2⟩ := h
  exact h2.get (by simp [ht])
theorem Tb.box (h : Tb B w0 w tq tk M rq rk L ts) (cs : Array Value) (ty : TypeId) : Tb B w0 (w.alloc (.cells cs ty)) tq tk M rq rk L (thB w.heap.size ty cs :: ts) := by
  obtain ⟨x, A, n, c, h1, h2⟩ := h
  refine ⟨x, A, n, c, h1, srt_perm (h2.box cs ty) ?_⟩
  exact ((List.Perm.swap _ _ _).trans ((List.Perm.swap _ _ _).cons _)).trans ((((List.Perm.swap _ _ _).trans ((List.Perm.swap _ _ _).cons _)).cons _).cons _)
theorem Tb.asTm (h : Tb B w0 w tq tk M rq rk L ts) : ∃ A n c, n = L.length ∧ Tm B w0 w tq tk M (bxR rk A n c rq :: rwR A n c L :: ts) := by
  obtain ⟨x, A, n, c, h1, h2⟩ := h
  exact ⟨A, n, c, h1, x, h2⟩
theorem Tb.ofTm {A : Option Addr} {n c : Nat} (hn : n = L.length) (h : Tm B w0 w tq tk M (bxR rk A n c rq :: rwR A n c L :: ts)) : Tb B w0 w tq tk M rq rk L ts := by
  obtain ⟨x, h2⟩ := h
  exact ⟨x, A, n, c, hn, h2⟩
theorem perm4 {α : Type} (a b c d : α) (l : List α) : (a :: b :: c :: d :: l).Perm (c :: d :: a :: b :: l) := by
  have h1 : (a :: b :: c :: d :: l).Perm (a :: c :: d :: b :: l) := ((List.Perm.swap c b _).trans ((List.Perm.swap d b _).cons c)).cons a
  exact h1.trans ((List.Perm.swap c a _).trans ((List.Perm.swap d a _).cons c))
theorem Tb.asRt (h : Tb B w0 w tq tk M rq rk L ts) : ∃ b, Rt B w0 w rq rk L (bxP tk b tq :: thMu alV b M :: ts) := by
  obtain ⟨x, A, n, c, h1, h2⟩ := h
  exact ⟨x, A, n, c, h1, srt_perm h2 (perm4 _ _ _ _ _)⟩
theorem Tb.ofRt {b : Nat} (h : Rt B w0 w rq rk L (bxP tk b tq :: thMu alV b M :: ts)) : Tb B w0 w tq tk M rq rk L ts := by
  obtain ⟨A, n, c, h1, h2⟩ := h
  exact ⟨b, A, n, c, h1, srt_perm h2 (perm4 _ _ _ _ _)⟩
end
/-- bounds -/
structure Bt (k : Nat) (M L : List (Nat × Nat × Nat)) (tk rk : Nat) : Prop where
  tk : tk ≤ 1000
  rk : rk ≤ 1000
  ml : M.length ≤ k
  ll : L.length ≤ k
  mt : ∀ x c, lookM M x = some c → c.2 ≤ 4
  lt : ∀ y ∈ L, y.2.1 ≤ k
  k : k ≤ 1000
def stepF (tk : Nat) (o : OT) (f : Nat → Option (Nat × Nat)) (k : Nat) : Option (Nat × Nat) :=
  if o.kd % 6 = 2 then (if k = o.se then some (almD tk o.now 0) else f k)
  else if o.kd % 6 = 3 then (if k = o.se then none else f k)
  else if 3 < o.kd % 6 then (f k).map (dueC tk o.now)
  else (if (f o.se).isSome then f k else if k = o.se then some (almD tk o.now 0) else f k)
def stepR (rk : Nat) (o : OT) (L : List (Nat × Nat × Nat)) : List (Nat × Nat × Nat) :=
  if o.kd % 6 = 2 then againR rk o.now o.se L
  else if o.kd % 6 = 3 then delM L o.se
  else if 3 < o.kd % 6 then L.map (dueR rk o.now)
  else (if (lookM L o.se).isSome then L else againR rk o.now o.se L)
def DsOut (B : Nat) (w0 : World) (tq tk rq rk : Nat) (ts : List Kt) (M L : List (Nat × Nat × Nat)) (o : OT) (e : Ending) (w' : World) : Prop :=
  ∃ r M' L', e = .returned (.bool r) ∧ Tb B w0 w' tq tk M' rq rk L' ts ∧ (∀ k, lookM M' k = stepF tk o (lookM M) k) ∧ M'.length ≤ M.length + 1 ∧ L' = stepR rk o L ∧ (RelT (lookM M) L → tk = rk → r = true)
theorem put_len (M : List (Nat × Nat × Nat)) (x : Nat) (a : Nat × Nat) : (putM M x a).length ≤ M.length + 1 := by
  unfold putM
  split
  · rw [List.length_map]; omega
  · rw [List.length_append]; simp
theorem del_len (M : List (Nat × Nat × Nat)) (x : Nat) : (delM M x).length ≤ M.length := List.length_filter_le _ _
theorem keys_len {M M' : List (Nat × Nat × Nat)} (h : M'.map Prod.fst = M.map Prod.fst) : M'.length = M.length := by
  have := congrArg List.length h
  simpa using this
def celT (o : OT) : Array Value := #[.int .u8 ((o.kd : Nat) : Int), .int .u32 ((o.se : Nat) : Int), .int .u64 ((o.now : Nat) : Int)]
def pickT {α : Type} (o : Option Value) (a b : α) : α := match o with | none => a | some _ => b
section
variable {B : Nat} {w0 w : World} {tq tk rq rk : Nat} {M L : List (Nat × Nat × Nat)} {ts : List Kt} {o : OT} {k : Nat}
set_option maxHeartbeats 4000000 in
theorem does_again (h : Tb B w0 w tq tk M rq rk L ts) (hb : Bt k M L tk rk) (hs : o.se < 4294967296) (hn : o.now < 18446744073709551616) (hk : o.kd % 6 = 2) :
    Calls Try.prog 9 #[.pointer (some ⟨tq, 0, none⟩), .pointer (some ⟨rq, 0, none⟩), .agg (celT o)] w (DsOut B w0 tq tk rq rk ts M L o) := by
  have f0 : (o.kd : Int) % 6 = 2 := by omega
  obtain ⟨W, hW⟩ : ∃ W, W = w.alloc (.cells (celT o) 33) := ⟨_, rfl⟩
  have HG := Lib.hid (h.box (celT o) 33)
  rw [← hW] at HG
  obtain ⟨g, hg⟩ : ∃ g, g = w.heap.size := ⟨_, rfl⟩
  obtain ⟨A, n, c, hnl, hT⟩ := HG.out.asTm
  rw [← hg] at HG hT
  have hlk : k ≤ 1000 := hb.k
  have hml := hb.ml
  have hll := hb.ll
  have H1 := Lib.hid (tagain_any hT o.se o.now hs hn hb.tk (by omega))
  have C : cellsSay W g 0 (celT o).toList := cells_say (HG.out.get (t := thB g 33 (celT o)) (by simp)) _ 0 rfl
  simp only [celT, cellsSay, Nat.reduceAdd, and_true] at C
  have HB := Lib.hid (And.intro hb (And.intro hs (And.intro hn (And.intro hnl hk))))
  obtain ⟨kd, se, now⟩ := o
  simp only at f0 C H1
  unfold celT at hW ⊢
  simp only at hW ⊢
  clear h hb hs hn hT hnl hk HG
  go_enter Try.func9, Try.ntmps9
  go_upto_region 1 with fail
  rw [← hW]
  rw [← hg]
  clear hW hg
  go_wp2_with fail
  refine H1.out.mono ?_
  rintro e w1 ⟨rfl, h1⟩
  have h2 := Tb.ofTm HB.out.2.2.2.1 h1
  obtain ⟨b, hR⟩ := h2.asRt
  have HG2 := Lib.hid h2
  have C : cellsSay w1 g 0 (celT ⟨kd, se, now⟩).toList := cells_say (h2.get (t := thB g 33 (celT ⟨kd, se, now⟩)) (by simp)) _ 0 rfl
  simp only [celT, cellsSay, Nat.reduceAdd, and_true] at C
  have H2 := Lib.hid (rtagain_any hR se now (by omega) HB.out.2.2.1 HB.out.1.rk)
  clear h1 h2 hR H1
  go_wp2_with fail
  refine H2.out.mono ?_
  rintro e w2 ⟨rfl, h3⟩
  have H3 := Lib.hid (Tb.ofRt h3)
  clear h3 H2 C
  go_wp2_with fail
  go_ret
  refine ⟨true, _, _, rfl, H3.out.sub (List.sublist_cons_self _ _), fun j => ?_, put_len _ _ _, ?_, fun _ _ => rfl⟩
  · rw [look_put]; unfold stepF; rw [if_pos HB.out.2.2.2.2]
  · unfold stepR; rw [if_pos HB.out.2.2.2.2]
end

end Go.Proofs.Ytgadedpcekiljaa
