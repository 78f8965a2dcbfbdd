/- Layer 13: remove. -/
import Derived.Test.YtlchnpmiaemobaaWin8
import Derived.Test.YtlchnpmiaemobaaObj
set_option linter.unusedSimpArgs false
set_option linter.unusedVariables false
namespace Go.Proofs.Ytlchnpmiaemobaa
open Go.RowKit
set_option maxRecDepth 100000

theorem first_gone (f : PC → Bool) : ∀ (l : List PC), (∀ p ∈ l, f p = false) ∨ ∃ (i : Nat) (pc : PC), l[i]? = some pc ∧ f pc = true ∧ ∀ (j : Nat) (q : PC), j < i → l[j]? = some q → f q = false
  | [] => .inl (fun p hp => by cases hp)
  | x :: l => by
    by_cases hx : f x = true
    · exact .inr ⟨0, x, rfl, hx, fun j q hj => by omega⟩
    · have hx' : f x = false := by simpa using hx
      rcases first_gone f l with h | ⟨i, pc, h1, h2, h3⟩
      · exact .inl fun p hp => by
          rcases List.mem_cons.1 hp with rfl | hp
          · exact hx'
          · exact h p hp
      · refine .inr ⟨i + 1, pc, by simpa using h1, h2, fun j q hj hq => ?_⟩
        cases j with
        | zero => simp at hq; subst hq; exact hx'
        | succ j => exact h3 j q (by omega) (by simpa using hq)

theorem apart_WP {w : World} {g : Nat} {cs : Array Value} {A : Option Addr} {n c : Nat} {l : List PC} (h : Blk w g 78 cs) (hr : OwnR w 0 31 encP 8 (.slice A n c) l) : (Value.slice A n c).ownBlock ≠ some g := fun e => by
  rcases hr.2 with ⟨e0, _⟩ | ⟨k, cap, cur, e0, _, hgg, _⟩
  · injection e0 with e1; rw [e1] at e; cases e
  · injection e0 with e1; rw [e1] at e; injection e with e; subst e
    have := Option.some.inj (h.symm.trans hgg)
    injection this with _ e2 _
    exact absurd e2 (by decide)

theorem delf_any (E : Kq) (g q1 q2 : Nat) (b : Int) (gone : PC → Bool) (hd : DelE E g q1 q2 b gone) (A : Option Addr) (c : Nat) (l : List PC) (w : World) (hE : E.P w) (hEg : E.ap g) (hEA : ∀ k, (Value.slice A l.length c).ownBlock = some k → E.ap k) (hg : Blk w g 78 #[.int .i64 b, .int .i64 (sumP l), .slice A l.length c])
    (hr : OwnR w 0 31 encP 8 (.slice A l.length c) l) (hok : okP l) (hn : sumP l ≤ 1000000000) (hl : l.length ≤ 1000000) :
    Calls Try.prog 53 #[.slice A l.length c, .func (.func 54) #[] #[.pointer (some ⟨q1, 0, none⟩), .pointer (some ⟨q2, 0, none⟩)]] w fun e w' =>
      e = .returned (.slice A (l.filter fun p => !gone p).length c) ∧ Blk w' g 78 #[.int .i64 b, .int .i64 (sumP (l.filter fun p => !gone p)), .slice A l.length c] ∧ OwnR w' 0 31 encP 8 (.slice A (l.filter fun p => !gone p).length c) (l.filter fun p => !gone p) ∧ Foot (inBR g (.slice A l.length c)) w w' := by
  rcases first_gone gone l with h | ⟨i, pc, h1, h2, h3⟩
  · have hf : (l.filter fun p => !gone p) = l := List.filter_eq_self.2 fun p hp => by rw [h p hp]; rfl
    refine (delf_none E g q1 q2 b gone hd A c l w hE hg hr hok hn hl h).mono ?_
    rintro e w' ⟨rfl, hb⟩
    rw [hf]
    exact ⟨rfl, hg.below hb (hg.lt), hr.below hb, Foot.of_below hb⟩
  · obtain ⟨P, rfl, -, -, -, -, hP⟩ := OwnR.at_ Try.eltP hr i (List.getElem?_eq_some_iff.1 h1).1
    exact delf_some E g q1 q2 b gone hd P c l w hE hEg (hEA P hP) (fun e => apart_WP hg hr (by rw [e]; exact hP)) hg hr hok hn hl i pc h1 h2 h3

theorem DelE.imp {E E' : Kq} {g q1 q2 : Nat} {b : Int} {gone : PC → Bool} (h : DelE E g q1 q2 b gone) (hi : ∀ W, E'.P W → E.P W) : DelE E' g q1 q2 b gone :=
  ⟨fun W n V p hg hE => h.1 W n V p hg (hi W hE), fun W n V p hg hE => h.2 W n V p hg (hi W hE)⟩
def qRem (X : Kq) (g q1 q2 fk : Nat) (caps : Array Value) : Kq := kL [qB q2 24 #[.pointer (some ⟨g, 0, none⟩)], qB q1 36 #[.func (.func fk) #[] caps], X]

set_option maxHeartbeats 2000000 in
theorem rem_any (g fk : Nat) (caps : Array Value) (X : Kq) (gone : PC → Bool) (b : Int) (A : Option Addr) (c : Nat) (l : List PC) (w : World) (hX : X.P w) (hXg : X.ap g) (hXA : ∀ k, (Value.slice A l.length c).ownBlock = some k → X.ap k)
    (hg : Blk w g 78 #[.int .i64 b, .int .i64 (sumP l), .slice A l.length c]) (hr : OwnR w 0 31 encP 8 (.slice A l.length c) l) (hok : okP l) (hn : sumP l ≤ 1000000000) (hl : l.length ≤ 1000000)
    (hdel : DelE (qRem X g (w.heap.size + 1) w.heap.size fk caps) g (w.heap.size + 1) w.heap.size b gone) :
    Calls Try.prog 37 #[.pointer (some ⟨g, 0, none⟩), .func (.func fk) #[] caps] w fun e w' =>
      e = .returned (.int .i64 ((l.length : Int) - (l.filter fun p => !gone p).length)) ∧ Blk w' g 78 #[.int .i64 b, .int .i64 (sumP (l.filter fun p => !gone p)), .slice A (l.filter fun p => !gone p).length c] ∧ OwnR w' 0 31 encP 8 (.slice A (l.filter fun p => !gone p).length c) (l.filter fun p => !gone p) ∧ Foot (inBR g (.slice A l.length c)) w w' := by
  have hgl := hg.lt
  have hAl : ∀ k, (Value.slice A l.length c).ownBlock = some k → k < w.heap.size := fun k hk => (World.ownsRow.lt hr k hk).2
  have K0 := ((((Qs.nil w).cons (k := qF (inBR g (.slice A l.length c)) w) (Foot.refl _ _)).cons (k := qV _ _ _ _ _ _) hr).cons (k := qB _ _ _) hg).cons (k := X) hX
  have K1 := (K0.box #[.pointer (some ⟨g, 0, none⟩)] 24).box #[.func (.func fk) #[] caps] 36
  simp only [World.size_alloc] at K1
  have HK := Lib.hid K1
  have hE : ∀ W, Qs W _ → (qRem X g (w.heap.size + 1) w.heap.size fk caps).P W := fun W (K : Qs W [qB (w.heap.size + 1) 36 #[.func (.func fk) #[] caps], qB w.heap.size 24 #[.pointer (some ⟨g, 0, none⟩)], X,
      qB g 78 #[.int .i64 b, .int .i64 (sumP l), .slice A l.length c], qV 0 31 encP 8 (.slice A l.length c) l, qF (inBR g (.slice A l.length c)) w]) => by
    refine ((Qs.nil W).cons (K.get 2 rfl)).cons (K.get 0 rfl) |>.cons (K.get 1 rfl)
  have hEg : (qRem X g (w.heap.size + 1) w.heap.size fk caps).ap g := by
    refine ⟨?_, ?_, hXg, trivial⟩
    · show w.heap.size ≠ g; omega
    · show w.heap.size + 1 ≠ g; omega
  have hEA : ∀ k, (Value.slice A l.length c).ownBlock = some k → (qRem X g (w.heap.size + 1) w.heap.size fk caps).ap k := fun k hk => by
    have hkl := hAl k hk
    refine ⟨?_, ?_, hXA k hk, trivial⟩
    · show w.heap.size ≠ k; omega
    · show w.heap.size + 1 ≠ k; omega
  obtain ⟨L', hL'⟩ : ∃ L', L' = l.filter fun p => !gone p := ⟨_, rfl⟩
  have hlen : L'.length ≤ l.length := by rw [hL']; exact List.length_filter_le _ _
  have hD := fun (W : World) K => delf_any _ g (w.heap.size + 1) w.heap.size b _ hdel A c l W (hE W K) hEg hEA (K.get 3 rfl) (K.get 4 rfl) hok hn hl
  rw [← hL'] at hD ⊢
  have hD2 : ∀ (W : World), Qs W [qB (w.heap.size + 1) 36 #[.func (.func fk) #[] caps], qB w.heap.size 24 #[.pointer (some ⟨g, 0, none⟩)], X,
      qB g 78 #[.int .i64 b, .int .i64 (sumP l), .slice A l.length c], qV 0 31 encP 8 (.slice A l.length c) l, qF (inBR g (.slice A l.length c)) w] →
      Calls Try.prog 53 #[.slice A l.length c, .func (.func 54) #[] #[.pointer (some ⟨w.heap.size + 1, 0, none⟩), .pointer (some ⟨w.heap.size, 0, none⟩)]] W fun e w' => e = .returned (.slice A L'.length c) ∧
        Qs w' [qB g 78 #[.int .i64 b, .int .i64 (sumP L'), .slice A l.length c], qV 0 31 encP 8 (.slice A L'.length c) L', qB w.heap.size 24 #[.pointer (some ⟨g, 0, none⟩)], qF (inBR g (.slice A l.length c)) w] := fun W K => (hD W K).mono fun e w' ⟨he, h1, h2, h3⟩ => by
    have q1 : Qs w' [qB w.heap.size 24 #[.pointer (some ⟨g, 0, none⟩)], qF (inBR g (.slice A l.length c)) w] := Qs.foot (w := W) (((Qs.nil W).cons (K.get 5 rfl)).cons (K.get 1 rfl)) h3 (fun k hk => ⟨by
      show w.heap.size ≠ k
      rcases hk with rfl | hk
      · omega
      · have := hAl k hk; omega, .inl hk, trivial⟩)
    exact ⟨he, (q1.cons (k := qV _ _ _ _ _ _) h2).cons (k := qB _ _ _) h1⟩
  have HD := Lib.hid hD2
  have HA := Lib.hid hAl
  have HX := Lib.hid hX
  clear hD hD2 hE hEg hEA hg hr hok K0 K1 hL' hdel hXg hXA hX hAl
  have C := HK.out.says
  simp only [sayAll, cellsSay, qB, qV, qF, Nat.reduceAdd, and_true, true_and] at C
  have kA := keepA
  go_enter Try.func37, Try.ntmps37
  go_wp2_with fail
  go_upto_region 2 with fail
  go_cut [17] (fun s17 wx => s17 = .slice A L'.length c ∧ Hid (Qs wx [qB g 78 #[.int .i64 b, .int .i64 (sumP L'), .slice A L'.length c], qV 0 31 encP 8 (.slice A L'.length c) L', qB w.heap.size 24 #[.pointer (some ⟨g, 0, none⟩)], qF (inBR g (.slice A l.length c)) w]))
  case first =>
    go_region_with (go_at_call 53; refine (HD.out _ HK.out.drew).mono ?_; rintro e w9 ⟨rfl, h9⟩; have H9 := Lib.hid h9; have C9 := h9.says; simp only [sayAll, cellsSay, qB, qV, qF, Nat.reduceAdd, and_true, true_and] at C9; clear h9)
    all_goals
      clear C C9
      have K9 := H9.out.put 0 g [(2, .slice A L'.length c)] #[.int .i64 b, .int .i64 (sumP L'), .slice A L'.length c] (by
        simp only [apBut, apAll, qB, qV, qF, and_true]; exact ⟨apart_WP (H9.out.blk 0) (H9.out.rowV 1), by omega, .inl (.inl rfl)⟩)
      simp only [List.set] at K9
      go_wp2_with fail
      go_meet
      exact ⟨rfl, Lib.hid K9⟩
  case rest =>
    obtain ⟨rfl, HC⟩ := hcut
    clear C
    have C := HC.out.says
    simp only [sayAll, cellsSay, qB, qV, qF, Nat.reduceAdd, and_true, true_and] at C
    go_wp2_with fail
    go_ret
    exact ⟨rfl, HC.out.blk 0, HC.out.rowV 1, HC.out.tofoot 3⟩

theorem inBR_len {g k n m c d : Nat} {A : Option Addr} (h : inBR g (.slice A n c) k) : inBR g (.slice A m d) k := by
  cases A <;> exact h
/-- a window in a world: what belongs to it, its bits, what is under way -/
structure WinO (w : World) (S : Nat → Prop) (g : Nat) (b : Int) (l : List PC) : Prop where
  low : ∀ k, S k → k < w.heap.size
  ex : ∃ A c, (∀ k, inBR g (.slice A l.length c) k → S k) ∧ Blk w g 78 #[.int .i64 b, .int .i64 (sumP l), .slice A l.length c] ∧ OwnR w 0 31 encP 8 (.slice A l.length c) l
theorem WinO.foot {w w' : World} {S S' : Nat → Prop} {g : Nat} {b : Int} {l : List PC} (h : WinO w S g b l) (f : Foot S' w w') (hS : ∀ k, S k → ¬ S' k) : WinO w' S g b l := by
  obtain ⟨A, c, hs, hg, hr⟩ := h.ex
  exact ⟨fun k hk => Nat.lt_of_lt_of_le (h.low k hk) f.size, A, c, hs, (f.block g hg.lt (hS g (hs g (.inl rfl)))).trans hg, own_of hr fun k hk => f.block k (World.ownsRow.lt hr k hk).2 (hS k (hs k (.inr hk)))⟩
theorem WinO.held {w : World} {S : Nat → Prop} {g : Nat} {b : Int} {l : List PC} (h : WinO w S g b l) : Held w S (fun w => WinO w S g b l) := ⟨h.low, fun _ f => h.foot f (fun _ hk e => e hk)⟩
theorem wack_any (S : Nat → Prop) (g se a0 a1 a2 : Nat) (b : Int) (l : List PC) (w : World) (h : WinO w S g b l) (hok : okP l) (hn : sumP l ≤ 1000000000) (hl : l.length ≤ 1000000) :
    Calls Try.prog 14 #[.pointer (some ⟨g, 0, none⟩), .int .u32 se, .agg #[.int .u32 a0, .int .u32 a1, .int .u32 a2]] w fun e w' =>
      e = .returned (.int .i64 ((l.length : Int) - (l.filter fun p => !goneA se a0 a2 p).length)) ∧ WinO w' S g b (l.filter fun p => !goneA se a0 a2 p) ∧ Aft S S w w' := by
  obtain ⟨A, c, hs, hg, hr⟩ := h.ex
  have hgl := hg.lt
  have hAl : ∀ k, (Value.slice A l.length c).ownBlock = some k → k < w.heap.size := fun k hk => (World.ownsRow.lt hr k hk).2
  have K1 := ((((Qs.nil w).cons (k := qV _ _ _ _ _ _) hr).cons (k := qB _ _ _) hg).box #[.int .u32 se] 27).box #[.int .u32 a0, .int .u32 a1, .int .u32 a2] 29
  simp only [World.size_alloc] at K1
  have hR := rem_any g 38 #[.pointer (some ⟨w.heap.size, 0, none⟩), .pointer (some ⟨w.heap.size + 1, 0, none⟩)] (kL [qB (w.heap.size + 1) 29 #[.int .u32 a0, .int .u32 a1, .int .u32 a2], qB w.heap.size 27 #[.int .u32 se]]) (goneA se a0 a2) b A c l _ (((Qs.nil _).cons (K1.get 1 rfl)).cons (K1.get 0 rfl))
    ⟨by show w.heap.size + 1 ≠ g; omega, by show w.heap.size ≠ g; omega, trivial⟩ (fun k hk => ⟨by have := hAl k hk; show w.heap.size + 1 ≠ k; omega, by have := hAl k hk; show w.heap.size ≠ k; omega, trivial⟩) (K1.blk 2) (K1.rowV 3) hok hn hl
    ((del_ack w.heap.size (w.heap.size + 1) _ _ g se a0 a1 a2 b).imp fun W (K : Qs W _) => by
      have hx : Qs W [qB (w.heap.size + 1) 29 #[.int .u32 a0, .int .u32 a1, .int .u32 a2], qB w.heap.size 27 #[.int .u32 se]] := K.get 2 rfl
      exact (hx.cons (K.get 1 rfl)).cons (K.get 0 rfl))
  have HR := Lib.hid hR
  have hl2 := h.low
  have HS := Lib.hid (And.intro hs hl2)
  clear hs hg hr hok hR K1 hAl h hl2
  go_enter Try.func14, Try.ntmps14
  go_wp2_with fail
  refine HR.out.mono ?_
  rintro e w1 ⟨rfl, h1, h2, h3⟩
  have H := Lib.hid (And.intro h1 (And.intro h2 h3))
  clear h1 h2 h3
  go_wp2_with fail
  go_ret
  obtain ⟨h1, h2, h3⟩ := H.out
  have hf : Foot S w w1 := (Foot.of_below ((below_alloc2 w (.cells #[.int .u32 se] 27) (.cells #[.int .u32 a0, .int .u32 a1, .int .u32 a2] 29)))).trans h3 (fun k hk => .inl (HS.out.1 k hk))
  exact ⟨rfl, ⟨fun k hk => Nat.lt_of_lt_of_le (HS.out.2 k hk) hf.size, A, c, fun k hk => HS.out.1 k (inBR_len hk), h1, h2⟩, hf, fun k hk => .inl hk⟩

theorem wdrop_any (S : Nat → Prop) (g se : Nat) (b : Int) (l : List PC) (w : World) (h : WinO w S g b l) (hok : okP l) (hn : sumP l ≤ 1000000000) (hl : l.length ≤ 1000000) :
    Calls Try.prog 15 #[.pointer (some ⟨g, 0, none⟩), .int .u32 se] w fun e w' =>
      e = .returned (.int .i64 ((l.length : Int) - (l.filter fun p => !goneD se p).length)) ∧ WinO w' S g b (l.filter fun p => !goneD se p) ∧ Aft S S w w' := by
  obtain ⟨A, c, hs, hg, hr⟩ := h.ex
  have hgl := hg.lt
  have hAl : ∀ k, (Value.slice A l.length c).ownBlock = some k → k < w.heap.size := fun k hk => (World.ownsRow.lt hr k hk).2
  have K1 := (((Qs.nil w).cons (k := qV _ _ _ _ _ _) hr).cons (k := qB _ _ _) hg).box #[.int .u32 se] 27
  have hR := rem_any g 39 #[.pointer (some ⟨w.heap.size, 0, none⟩)] (kL [qB w.heap.size 27 #[.int .u32 se]]) (goneD se) b A c l _ ((Qs.nil _).cons (K1.get 0 rfl))
    ⟨by show w.heap.size ≠ g; omega, trivial⟩ (fun k hk => ⟨by have := hAl k hk; show w.heap.size ≠ k; omega, trivial⟩) (K1.blk 1) (K1.rowV 2) hok hn hl
    ((del_drop w.heap.size _ _ g se b).imp fun W (K : Qs W _) => by
      have hx : Qs W [qB w.heap.size 27 #[.int .u32 se]] := K.get 2 rfl
      exact (hx.cons (K.get 1 rfl)).cons (K.get 0 rfl))
  have HR := Lib.hid hR
  have hl2 := h.low
  have HS := Lib.hid (And.intro hs hl2)
  clear hs hg hr hok hR K1 hAl h hl2
  go_enter Try.func15, Try.ntmps15
  go_wp2_with fail
  refine HR.out.mono ?_
  rintro e w1 ⟨rfl, h1, h2, h3⟩
  have H := Lib.hid (And.intro h1 (And.intro h2 h3))
  clear h1 h2 h3
  go_wp2_with fail
  go_ret
  obtain ⟨h1, h2, h3⟩ := H.out
  have hf : Foot S w w1 := (Foot.of_below (below_alloc w (.cells #[.int .u32 se] 27))).trans h3 (fun k hk => .inl (HS.out.1 k hk))
  exact ⟨rfl, ⟨fun k hk => Nat.lt_of_lt_of_le (HS.out.2 k hk) hf.size, A, c, fun k hk => HS.out.1 k (inBR_len hk), h1, h2⟩, hf, fun k hk => .inl hk⟩

end Go.Proofs.Ytlchnpmiaemobaa
