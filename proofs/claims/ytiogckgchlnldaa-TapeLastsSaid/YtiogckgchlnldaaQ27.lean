/- Joined: Tp21, Tp22. -/
import Derived.Test.YtiogckgchlnldaaQ26
set_option linter.unusedSimpArgs false
set_option linter.unusedVariables false
/- Layer 10: what a journal holds from call to call: mathematics. -/
set_option linter.unusedSimpArgs false
set_option linter.unusedVariables false
namespace Go.Proofs.Ytiogckgchlnldaa
set_option maxRecDepth 100000

section
variable {d : Fd} {room : Int}
theorem rm_append (h : Fx d) (n : Nm) {x : List UInt8} (hx : x.length ≤ 600) (hu : usedD d + 610 ≤ 100000) (hl : d.P.length < 1000000) (hr : (usedD d : Int) ≤ room) : (usedD (appendD room d n (wrapL x)).2 : Int) ≤ room := by
  obtain ⟨T, h⟩ := h
  exact append_room h (by have := wrapL_600 hx; omega) hl hr
theorem rm_tappend (h : Fx d) (n : Nm) (x : List UInt8) (hu : usedD d + 610 ≤ 100000) (hl : d.P.length < 1000000) (hr : (usedD d : Int) ≤ room) : (usedD (tappendD room d n x).2 : Int) ≤ room := by
  unfold tappendD
  split
  · exact hr
  · exact rm_append h n (by omega) hu hl hr
theorem rm_apps (o : Nm) : ∀ (L : List (List UInt8)) (d : Fd), Fx d → (∀ x ∈ L, x.length ≤ 600) → usedD d + 610 * L.length ≤ 100000 → d.P.length + L.length ≤ 1000000 → (usedD d : Int) ≤ room → (usedD (appsD room o L d).2 : Int) ≤ room
  | [], d, _, _, _, _, hr => hr
  | x :: xs, d, h, hx, hu, hl, hr => by
    rw [List.length_cons] at hu hl
    have h1 := bd_append h room o (hx x List.mem_cons_self) (by omega) (by omega)
    have h2 := rm_append h o (hx x List.mem_cons_self) (by omega) (by omega) hr
    unfold appsD
    split
    · exact h2
    · exact rm_apps o xs _ h1.fx (fun y hy => hx y (List.mem_cons_of_mem _ hy)) (by have := h1.us; omega) (by have := h1.pl; omega) h2
theorem rm_swap (h : Fx d) (n : Nm) (L : List (List UInt8)) (hu : usedD d + 610 * L.length ≤ 100000) (hl : d.P.length + L.length ≤ 1000000) (hr : (usedD d : Int) ≤ room) : (usedD (swapD room d n L).2 : Int) ≤ room := by
  unfold swapD
  split
  · exact hr
  · rename_i hb
    have hL : ∀ l ∈ L, l.length ≤ 600 := fun l hm => by
      have hb2 : L.any (fun l => decide (600 < l.length)) = false := by simpa using hb
      have := List.any_eq_false.1 hb2 l hm
      simpa using this
    have h1 := bd_remove h (oth n)
    have r1 : (usedD (removeD d (oth n)).2 : Int) ≤ room := by have := h1.us; omega
    have hw : Fx (rewriteD room (removeD d (oth n)).2 n L).2 ∧ (usedD (rewriteD room (removeD d (oth n)).2 n L).2 : Int) ≤ room := by
      generalize (removeD d (oth n)).2 = e at h1 r1
      have h2 := bd_create h1.fx (oth n)
      have h3 := bd_apps room (oth n) L _ h2.fx hL (by have := h1.us; have := h2.us; omega) (by have := h1.pl; have := h2.pl; omega)
      have r3 := rm_apps (room := room) (oth n) L _ h2.fx hL (by have := h1.us; have := h2.us; omega) (by have := h1.pl; have := h2.pl; omega) (by have := h2.us; omega)
      have h4 := bd_sync h3.fx (oth n)
      have h5 := bd_rename h4.fx (oth n) n
      unfold rewriteD
      split
      · exact ⟨h2.fx, by have := h2.us; omega⟩
      · split
        · exact ⟨h3.fx, r3⟩
        · split
          · exact ⟨h4.fx, by have := h4.us; omega⟩
          · exact ⟨h5.fx, by have := h4.us; have := h5.us; omega⟩
    dsimp only
    split
    · have := (bd_remove hw.1 (oth n)).us
      omega
    · exact hw.2
end

/-- the journal holds La, of which su are sure; or a call was lost, and it holds Lw, of which sw are -/
structure SL (dk : Fd) (La Lw : List (List UInt8)) (su sw : Nat) : Prop where
  hl : Hlt dk
  st : ∃ D N, Kf nJ (D.flatMap wrapL) (N.map wrapL) dk ∧ (∀ o ∈ D ++ N, o.length ≤ 600) ∧ ((D ++ N = La ∧ D.length = su) ∨ (dk.dd = true ∧ D ++ N = Lw ∧ D.length = sw))
section
variable {dk : Fd} {La Lw : List (List UInt8)} {su sw : Nat}
theorem SL.first (h : SL dk La Lw su sw) (hd : dk.dd = false) : ∃ D N, Kf nJ (D.flatMap wrapL) (N.map wrapL) dk ∧ (∀ o ∈ D ++ N, o.length ≤ 600) ∧ D ++ N = La ∧ D.length = su := by
  obtain ⟨D, N, h1, h2, ⟨h3, h4⟩ | ⟨h3, _⟩⟩ := h.st
  · exact ⟨D, N, h1, h2, h3, h4⟩
  · rw [hd] at h3; cases h3
theorem SL.none (h : SL dk La Lw su sw) (hd : dk.dd = false) : SL dk La La su su := by
  obtain ⟨D, N, h1, h2, h3, h4⟩ := h.first hd
  exact ⟨h.hl, D, N, h1, h2, .inl ⟨h3, h4⟩⟩
theorem SL.sync (h : SL dk La Lw su sw) (hd : dk.dd = false) : (syncD dk nJ).1 = 0 ∧ ((syncD dk nJ).2.dd = true → SL (syncD dk nJ).2 La La su su) ∧ ((syncD dk nJ).2.dd = false → SL (syncD dk nJ).2 La La La.length su) := by
  obtain ⟨D, N, h1, h2, h3, h4⟩ := h.first hd
  obtain ⟨s1, s2, s3⟩ := h1.sync_self h.hl
  refine ⟨s2, fun e => ?_, fun e => ?_⟩
  · rcases s3 with ⟨s3, -⟩ | ⟨s3, -⟩
    · exact ⟨s1, D, N, s3, h2, .inl ⟨h3, h4⟩⟩
    · rw [e] at s3; cases s3
  · rcases s3 with ⟨-, s3⟩ | ⟨-, -, s3⟩
    · rw [e] at s3; cases s3
    · refine ⟨s1, La, [], ?_, by rw [List.append_nil, ← h3]; exact h2, .inl ⟨List.append_nil _, rfl⟩⟩
      rw [flatten_wrap, ← List.flatMap_append, h3] at s3
      exact s3
theorem SL.swap (h : SL dk La Lw su sw) (hd : dk.dd = false) (room : Int) (L : List (List UInt8)) : ((swapD room dk nJ L).1 = 0 → SL (swapD room dk nJ L).2 L La L.length su) ∧ ((swapD room dk nJ L).1 ≠ 0 → SL (swapD room dk nJ L).2 La La su su) := by
  obtain ⟨D, N, h1, h2, h3, h4⟩ := h.first hd
  obtain ⟨s1, s2⟩ := swap_kf room h1 h.hl (by decide) L
  refine ⟨fun e => ?_, fun e => ?_⟩
  · rcases s2 with ⟨s2, s3 | s3⟩ | ⟨s2, s3, s4, s5⟩
    · exact absurd e s3
    · exact ⟨s1, D, N, s2, h2, .inr ⟨s3, h3, h4⟩⟩
    · exact ⟨s1, L, [], s5, by rw [List.append_nil]; exact s4, .inl ⟨List.append_nil _, rfl⟩⟩
  · rcases s2 with ⟨s2, -⟩ | ⟨s2, -⟩
    · exact ⟨s1, D, N, s2, h2, .inl ⟨h3, h4⟩⟩
    · exact absurd s2 e
theorem SL.app (h : SL dk La Lw su sw) (hd : dk.dd = false) (room : Int) (b : List UInt8) : ((tappendD room dk nJ b).1 = 0 → SL (tappendD room dk nJ b).2 (La ++ [b]) La su su) ∧ ((tappendD room dk nJ b).1 ≠ 0 → SL (tappendD room dk nJ b).2 La La su su) := by
  unfold tappendD
  by_cases h6 : 600 < b.length
  · rw [if_pos h6]
    exact ⟨(fun e => by cases e), fun _ => h.none hd⟩
  · rw [if_neg h6]
    obtain ⟨D, N, h1, h2, h3, h4⟩ := h.first hd
    obtain ⟨s1, s2⟩ := h1.append_self h.hl room (wrapL b) (wrapL_ne b)
    refine ⟨fun e => ?_, fun e => ?_⟩
    · rcases s2 with ⟨s2, s3 | s3⟩ | ⟨s2, s3, s4, s5⟩
      · exact absurd e s3
      · exact ⟨s1, D, N, s2, h2, .inr ⟨s3, h3, h4⟩⟩
      · refine ⟨s1, D, N ++ [b], by rw [List.map_append]; exact s5, ?_, .inl ⟨by rw [← List.append_assoc, h3], h4⟩⟩
        intro o ho
        rw [← List.append_assoc, List.mem_append, List.mem_singleton] at ho
        rcases ho with ho | rfl
        · exact h2 o ho
        · omega
    · rcases s2 with ⟨s2, -⟩ | ⟨s2, -⟩
      · exact ⟨s1, D, N, s2, h2, .inl ⟨h3, h4⟩⟩
      · exact absurd s2 e
theorem crashF_skip {kept : Nat → Bool} {last torn : Int} {n : Nm} : ∀ (ps : Fl) (i : Nat) (b : List UInt8), psOf ps n = [] → crashF kept last torn n ps i b [] = b
  | [], _, _, _ => rfl
  | p :: ps, i, b, h => by
    unfold psOf at h
    rw [List.map_eq_nil_iff, List.filter_eq_nil_iff] at h
    have h1 := h p List.mem_cons_self
    unfold crashF
    rw [if_neg (by simpa using h1)]
    refine crashF_skip ps (i + 1) b ?_
    unfold psOf
    rw [List.map_eq_nil_iff, List.filter_eq_nil_iff]
    exact fun a ha => h a (List.mem_cons_of_mem _ ha)
theorem crash_kf0 {j : Nm} {a : List UInt8} {d : Fd} (h : Kf j a [] d) (kept : Nat → Bool) (torn : Int) : Kf j a [] (crashD d kept torn) := by
  refine ⟨?_, rfl, ?_, fun p hp => by cases hp⟩
  · show atF (d.F.map fun f => (f.1, crashF kept (lastK kept d.P.length) torn f.1 d.P 0 f.2 [])) j = _
    rw [at_map]
    have hat := h.at_
    unfold atF at hat
    rw [Option.map_eq_some_iff] at hat
    obtain ⟨f, hf, rfl⟩ := hat
    have hn : f.1 = j := by simpa using List.find?_some hf
    rw [hf, Option.map_some, hn, crashF_skip _ _ _ h.ps]
  · show upN (d.F.map _)
    unfold upN
    rw [List.pairwise_map]
    exact h.up
/-- what is there in the end -/
theorem SL.last (h : SL dk La Lw su sw) (k1 k2 : Nat → Bool) (t1 t2 : Int) (a : Int) : ∃ G, (topenD (crashD (topenD (haltD (crashD dk k1 t1) a) nJ).2.2 k2 t2) nJ).1 = 0 ∧ (topenD (crashD (topenD (haltD (crashD dk k1 t1) a) nJ).2.2 k2 t2) nJ).2.1 = G ∧
    (topenD (topenD (crashD (topenD (haltD (crashD dk k1 t1) a) nJ).2.2 k2 t2) nJ).2.2 nJ).1 = 0 ∧ (topenD (topenD (crashD (topenD (haltD (crashD dk k1 t1) a) nJ).2.2 k2 t2) nJ).2.2 nJ).2.1 = G ∧
    (topenD (haltD (crashD dk k1 t1) a) nJ).1 = 0 ∧ ((su ≤ G.length ∧ G.length ≤ La.length ∧ La.take G.length = G) ∨ dk.dd = true ∧ sw ≤ G.length ∧ G.length ≤ Lw.length ∧ Lw.take G.length = G) := by
  obtain ⟨D, N, h1, h2, h3⟩ := h.st
  obtain ⟨m, t, hm, hr, hk⟩ := crash_kf h1 N rfl k1 t1
  have hlen : ∀ o ∈ D ++ N.take m, o.length ≤ 600 := fun o ho => h2 o (by
    rw [List.mem_append] at ho ⊢
    rcases ho with ho | ho
    · exact .inl ho
    · exact .inr (List.mem_of_mem_take ho))
  have hG := Rd10.rows hr (D ++ N.take m) hlen
  rw [List.flatMap_append] at hG
  obtain ⟨u, hu⟩ : ∃ u, u = ((D ++ N.take m).map fun o => (wrapL o).length).sum := ⟨_, rfl⟩
  rw [← hu] at hG
  obtain ⟨c1, c2, c3⟩ := crash_hl dk k1 t1
  obtain ⟨e1, e2, e3⟩ := halt_kf hk c2 a
  have ho2 : lenOk nJ = true := by decide
  have hon : oth nJ ≠ nJ := by decide
  obtain ⟨f0, f1, f2, -, f4⟩ := open_kf e1 e2 ho2 hon (G := D ++ N.take m) (u := u) (by rw [List.flatten_nil, List.append_nil]; exact hG)
  obtain ⟨b, hb, f5⟩ := f4 rfl
  have g1 := crash_kf0 f5 k2 t2
  obtain ⟨g2, -, -⟩ := crash_hl (topenD (haltD (crashD dk k1 t1) a) nJ).2.2 k2 t2
  obtain ⟨p0, p1, p2, -, p4⟩ := open_kf g1 g2 ho2 hon (G := D ++ N.take m) (u := u) (by rw [List.flatten_nil, List.append_nil]; exact hb)
  obtain ⟨b2, hb2, p5⟩ := p4 rfl
  obtain ⟨q0, q1, -⟩ := open_kf p5 p2 ho2 hon (G := D ++ N.take m) (u := u) (by rw [List.flatten_nil, List.append_nil]; exact hb2)
  refine ⟨D ++ N.take m, p0, p1, q0, q1, f0, ?_⟩
  have hl : (D ++ N.take m).length = D.length + m := by rw [List.length_append, List.length_take]; omega
  have ht : ∀ X, D ++ N = X → (D ++ N.take m).length ≤ X.length ∧ X.take (D ++ N.take m).length = D ++ N.take m := fun X hX => by
    rw [hl, ← hX, List.length_append, List.take_length_add_append]
    exact ⟨by omega, rfl⟩
  rcases h3 with ⟨h3, h4⟩ | ⟨h3, h4, h5⟩
  · exact .inl ⟨by omega, (ht _ h3).1, (ht _ h3).2⟩
  · exact .inr ⟨h3, by omega, (ht _ h4).1, (ht _ h4).2⟩
end

end Go.Proofs.Ytiogckgchlnldaa

/- Layer 10: the walk of TapeLasts. -/
set_option linter.unusedSimpArgs false
set_option linter.unusedVariables false
namespace Go.Proofs.Ytiogckgchlnldaa
open Go.RowKit
set_option maxRecDepth 100000

/-- the front of a list of lists -/
theorem run_frontM (A : Option Addr) (n c k : Nat) (hk : k ≤ c) (h0 : A = none → c = 0) (w : World) : (Instr.slice 22 (.slice A n c) none (some (.int .i64 k)) none).run Try.prog w = .ok (.slice A k c) w := by
  refine (run_sliceAt_slice w 22 _ _ _ _ Try.underlying22).symm.trans ?_
  rcases A with _ | a
  · have := h0 rfl
    subst this
    obtain rfl : k = 0 := by omega
    simp [go_sem]
  · by_cases hc : c = 0
    · subst hc
      obtain rfl : k = 0 := by omega
      simp [go_sem]
    · have : ¬ c = 0 := hc
      simp [go_sem, hk, this, Addr.add]
theorem Ns.front {w : World} {A : Option Addr} {L : List Bx} (h : Ns w A L) (k : Nat) : Ns w A (L.take k) := by
  refine ⟨fun i x hi => ?_, fun x hx => h.by_ x (List.mem_of_mem_take hx)⟩
  rw [List.getElem?_take] at hi
  split at hi
  · exact h.row i x hi
  · cases hi
/-- between the calls -/
def LI (w wr : World) (q tp : Nat) (t7 t9 : Kt) (k : Nat) (Aa : Option Addr) (an ac : Nat) (Aw : Option Addr) (wn wk su sw : Nat) : Prop :=
  ∃ (us : List Kt) (dk : Fd) (La Lw : List Bx), FsI w.heap.size w wr q 20000 us dk ∧ (thT tp q nJ ∈ us ∧ t7 ∈ us ∧ t9 ∈ us) ∧ (∀ W d', FsI w.heap.size w W q 20000 us d' → Ns W Aa La ∧ Ns W Aw Lw) ∧ (La.length = an ∧ Lw.length = wn ∧ an ≤ ac ∧ wn ≤ wk ∧ (Aa = none → ac = 0) ∧ (Aw = none → wk = 0) ∧ an ≤ 10 + k ∧ wn ≤ 10 + k) ∧ SL dk (La.map Bx.b) (Lw.map Bx.b) su sw ∧ ((usedD dk : Int) ≤ ((20000 : Nat) : Int) ∧ dk.P.length ≤ 11 * k ∧ dk.lf ≤ 1000000)
theorem tapp_k (room : Int) (d : Fd) (n : Nm) (l : List UInt8) : (tappendD room d n l).1 ≤ 1000 := by
  unfold tappendD
  split
  · show (1 : Nat) ≤ 1000; omega
  · exact append_k _ _ _ _
def CutB (P : Prop) (v : Value) (W0 W : World) : Prop := ∃ b : Bool, v = .bool b ∧ (P → b = true) ∧ Below W0.heap.size W0 W

set_option maxHeartbeats 32000000 in
theorem tapeLasts_walk (V : Option Addr) (cv : Nat) (l : List OpT) (hlt : Nat) (FA : Option Addr) (fc : Nat) (fk : List Bool) (ft : Int) (ag : Nat) (GA : Option Addr) (gc : Nat) (gk : List Bool) (gt : Int) (w : World)
    (hV : Rw w encOpT 6 V l) (ho : ∀ o ∈ l, o.ok w) (hh : hlt < 256) (hF : Bo w FA fk) (hfl : fk.length ≤ maxLen) (hag : ag < 256) (hG : Bo w GA gk) (hgl : gk.length ≤ maxLen) :
    Calls Try.prog 11 #[.slice V l.length cv, .int .u8 (hlt : Nat), .agg #[.slice FA fk.length fc, .int .i64 ft], .int .u8 (ag : Nat), .agg #[.slice GA gk.length gc, .int .i64 gt]] w fun e w' => e = .returned (.bool true) ∧ Below w.heap.size w w' := by
  have HK := Lib.hid (fun W => fknownT_any W)
  obtain ⟨n, hn⟩ : ∃ n, n = l.length := ⟨_, rfl⟩
  obtain ⟨fn, hfn⟩ : ∃ n, n = fk.length := ⟨_, rfl⟩
  obtain ⟨gn, hgn⟩ : ∃ n, n = gk.length := ⟨_, rfl⟩
  rw [← hn, ← hfn, ← hgn]
  obtain ⟨W1, hW1⟩ : ∃ W, W = w.alloc (.cells #[.slice FA fn fc, .int .i64 ft] 25) := ⟨_, rfl⟩
  obtain ⟨W, hW⟩ : ∃ W, W = W1.alloc (.cells #[.slice GA gn gc, .int .i64 gt] 25) := ⟨_, rfl⟩
  obtain ⟨g7, hg7⟩ : ∃ g, g = w.heap.size := ⟨_, rfl⟩
  have hz1 : W1.heap.size = w.heap.size + 1 := by rw [hW1]; simp
  have S0 := (((Sep.nil (Below.refl w.heap.size w) (Nat.le_refl _)).box #[.slice FA fn fc, .int .i64 ft] 25))
  rw [← hW1] at S0
  have S1 := S0.box #[.slice GA gn gc, .int .i64 gt] 25
  rw [← hW, hz1] at S1
  have HS := Lib.hid S1
  have C7 := fbsays (S1.blk 1)
  have C9 := fbsays (S1.blk 0)
  simp only [cellsSay, Nat.reduceAdd, and_true] at C7 C9
  have hbW : Below w.heap.size w W := S1.b
  have HBW := Lib.hid hbW
  have HH := Lib.hid (heavyT_any V cv l W (hV.below hbW (Nat.le_refl _)) (fun o h => (ho o h).row.below hbW (Nat.le_refl _)))
  have HL := Lib.hid (And.intro hV (And.intro ho (And.intro hF (And.intro hG (And.intro hn (And.intro hfn hgn))))))
  obtain ⟨a8, ha8⟩ : ∃ a8, a8 = ag % 8 := ⟨_, rfl⟩
  have hlm : (ag : Int) % 8 = (a8 : Int) := by omega
  have ha8b : a8 < 8 := by omega
  clear ha8
  rw [← hn] at HH
  clear hV ho hF hG hn hfn hgn hbW S0 S1 hfl hgl hg7
  go_enter Try.func11, Try.ntmps11
  go_upto_region 1 with fail
  rw [← hW1, ← hW]
  clear hW hW1
  go_wp2_with fail
  refine HH.out.mono ?_
  rintro e w1 ⟨r, rfl, rfl, hr⟩
  cases r with
  | true =>
    clear hr
    go_wp2_with fail
    refine (HK.out _).mono ?_
    rintro e w3 ⟨rfl, h3⟩
    have H3 := Lib.hid (on1 HBW.out h3)
    clear h3 HK
    go_wp2_with fail
    go_ret
    exact ⟨rfl, H3.out⟩
  | false =>
    have HGd := Lib.hid (hr rfl)
    clear hr HH
    by_cases hf6 : 60 < fn
    · have hd : decide ((60 : Int) < (fn : Int)) = true := decide_eq_true (by omega)
      go_wp2_with fail
      refine (HK.out _).mono ?_
      rintro e w3 ⟨rfl, h3⟩
      have H3 := Lib.hid (on1 HBW.out h3)
      clear h3 HK
      go_wp2_with fail
      go_ret
      exact ⟨rfl, H3.out⟩
    · have hd : decide ((60 : Int) < (fn : Int)) = false := decide_eq_false (by omega)
      by_cases hg6 : 60 < gn
      · have hd2 : decide ((60 : Int) < (gn : Int)) = true := decide_eq_true (by omega)
        go_wp2_with fail
        refine (HK.out _).mono ?_
        rintro e w3 ⟨rfl, h3⟩
        have H3 := Lib.hid (on1 HBW.out h3)
        clear h3 HK
        go_wp2_with fail
        go_ret
        exact ⟨rfl, H3.out⟩
      · have hd2 : decide ((60 : Int) < (gn : Int)) = false := decide_eq_false (by omega)
        go_wp2_with fail
        refine (HK.out _).mono ?_
        rintro e w3 ⟨rfl, h3⟩
        have HN := Lib.hid (new_any (HS.out.go h3) 20000 (by omega))
        clear h3 HK HBW HS C7 C9 hd hd2
        go_wp2_with fail
        refine HN.out.mono ?_
        rintro e w4 ⟨q, rfl, h4⟩
        have HC := Lib.hid (topen_any nJ h4 (by decide) (by decide))
        rw [j_1] at HC
        clear HN h4
        go_wp2_with fail
        refine HC.out.mono ?_
        rintro e w5 (⟨h5, -⟩ | ⟨-, tp, R0, k0, cr0, L0, rfl, hLk, hLe, h5⟩)
        · exact absurd rfl h5
        have HA := Lib.hid (halt_any (hlt : Nat) h5.tail)
        clear h5 HC hLk hLe
        go_wp2_with fail
        refine HA.out.mono ?_
        rintro e w6 ⟨rfl, h6⟩
        obtain ⟨t7, ht7⟩ : ∃ t, t = thB w.heap.size 25 #[.slice FA fn fc, .int .i64 ft] := ⟨_, rfl⟩
        obtain ⟨t9, ht9⟩ : ∃ t, t = thB (w.heap.size + 1) 25 #[.slice GA gn gc, .int .i64 gt] := ⟨_, rfl⟩
        have HI : Hid (LI w w6 q tp t7 t9 0 none 0 0 none 0 0 0 0) := Lib.hid ⟨_, haltD jd1 (hlt : Nat), [], [], h6, ⟨by simp, by rw [ht7]; simp, by rw [ht9]; simp⟩, fun W d' hs => ⟨⟨Rw.nil _ _ _ _, fun x hx => by cases hx⟩, Rw.nil _ _ _ _, fun x hx => by cases hx⟩, ⟨rfl, rfl, Nat.le_refl _, Nat.le_refl _, (fun _ => rfl), (fun _ => rfl), by omega, by omega⟩, ⟨(fun e => by cases e), [], [], kf_j.same rfl rfl, (fun o h => by cases h), .inl ⟨rfl, rfl⟩⟩, by show ((usedD jd1 : Nat) : Int) ≤ _; decide +kernel, by show jd1.P.length ≤ _; decide, by show ((hlt : Nat) : Int).toNat ≤ _; omega⟩
        have HT := Lib.hid (And.intro ht7 ht9)
        clear h6 HA ht7 ht9
        go_wp2_with fail
        go_loopw [15, 16, 17, 18, 19] (fun s15 s16 s17 s18 s19 wr => ∃ (k : Nat) (Aa : Option Addr) (an ac : Nat) (Aw : Option Addr) (wn wk su sw : Nat), k ≤ n ∧ s19 = .int .i64 k ∧ s15 = .slice Aa an ac ∧ s16 = .slice Aw wn wk ∧ s17 = .int .i64 su ∧ s18 = .int .i64 sw ∧ Hid (LI w wr q tp t7 t9 k Aa an ac Aw wn wk su sw)) (fun _ _ _ _ s _ => n - (intOf s).toNat)
        case atStart => exact ⟨0, none, 0, 0, none, 0, 0, 0, 0, Nat.zero_le _, rfl, rfl, rfl, rfl, rfl, HI⟩
        case round =>
          obtain ⟨k, Aa, an, ac, Aw, wn, wk, su, sw, hk, rfl, rfl, rfl, rfl, rfl, HR⟩ := hrel
          obtain ⟨us, dk, La, Lw, r1, r2, r3, r4, r5, r6⟩ := HR.out
          have hn30 : n ≤ 30 := by rw [HL.out.2.2.2.2.1]; exact HGd.out.1
          have HHd := Lib.hid (halted_any r1)
          obtain ⟨bd, hbd⟩ : ∃ b, b = dk.dd := ⟨_, rfl⟩
          rw [← hbd] at HHd
          by_cases hlt2 : k < n
          · have hkl : (k : Int) < (n : Int) := by omega
            have hk0 : (0 : Int) ≤ (k : Int) := by omega
            cases bd with
            | true =>
              have HE := Lib.hid (And.intro r1 (And.intro r2 (And.intro r3 (And.intro r4 r5))))
              clear r1 r2 r3 r4 r5 r6 HR hbd
              go_wp2_with fail
              refine HHd.out.mono ?_
              rintro e w7 ⟨rfl, hw7⟩
              rw [hw7]
              clear hw7
              go_wp2_with fail
              refine HHd.out.mono ?_
              rintro e w7 ⟨rfl, hw7⟩
              rw [hw7]
              clear hw7
              clear HHd
              obtain ⟨r1, r2, r3, r4, rS⟩ := HE.out
              obtain ⟨G, m1, m2, m3, m4, m5, m6⟩ := rS.last (kpt fk) (kpt gk) ft gt (a8 : Int)
              have f0 : Fx dk := r1.fi
              have b7 : Blk wr w.heap.size 25 #[.slice FA fn fc, .int .i64 ft] := by
                have := r1.memT r2.2.1
                rw [HT.out.1] at this
                exact this
              have C7 := fbsays b7
              simp only [cellsSay, Nat.reduceAdd, and_true] at C7
              have HC1 := Lib.hid (crash_any fk FA fc fn HL.out.2.2.2.2.2.1 ft r1 (fun W' hs => sep_keepK hs (Nat.le_refl _) HL.out.2.2.1) (by omega))
              obtain ⟨d1, hd1⟩ : ∃ d, d = crashD dk (kpt fk) ft := ⟨_, rfl⟩
              have f1 : Fx d1 := by rw [hd1]; exact fx_crash f0 _ _
              rw [← hd1] at HC1 m1 m2 m3 m4 m5
              obtain ⟨d2, hd2⟩ : ∃ d, d = haltD d1 (a8 : Int) := ⟨_, rfl⟩
              have f2 : Fx d2 := by rw [hd2]; exact fx_same f1 rfl rfl
              have l2 : d2.lf ≤ 1000000 := by rw [hd2]; show ((a8 : Int)).toNat ≤ _; omega
              rw [← hd2] at m1 m2 m3 m4 m5
              have f3 := bd_open f2 nJ
              obtain ⟨D3, hD3⟩ : ∃ d, d = topenD d2 nJ := ⟨_, rfl⟩
              rw [← hD3] at m1 m2 m3 m4 m5 f3
              obtain ⟨d4, hd4⟩ : ∃ d, d = crashD D3.2.2 (kpt gk) gt := ⟨_, rfl⟩
              have f4 : Fx d4 := by rw [hd4]; exact fx_crash f3.fx _ _
              have l4 : d4.lf ≤ 1000000 := by rw [hd4]; exact Nat.zero_le _
              rw [← hd4] at m1 m2 m3 m4
              have f5 := bd_open f4 nJ
              obtain ⟨D5, hD5⟩ : ∃ d, d = topenD d4 nJ := ⟨_, rfl⟩
              rw [← hD5] at m1 m2 m3 m4 f5
              obtain ⟨D6, hD6⟩ : ∃ d, d = topenD D5.2.2 nJ := ⟨_, rfl⟩
              rw [← hD6] at m3 m4
              have l5 : D5.2.2.lf ≤ 1000000 := Nat.le_trans f5.lf l4
              have HM := Lib.hid (And.intro m1 (And.intro m2 (And.intro m3 (And.intro m4 (And.intro m5 (And.intro m6 (And.intro hd2 (And.intro hD3 (And.intro hd4 (And.intro hD5 (And.intro hD6 (And.intro l2 (And.intro l4 (And.intro l5 (And.intro r2 (And.intro r3 r4))))))))))))))))
              clear m1 m2 m3 m4 m5 m6 hd1 hd2 hD3 hd4 hD5 hD6 f0 f1 f2 f3 f4 f5 l2 l4 l5 rS r1 r2 r3 r4 b7
              go_wp2_with fail
              refine HC1.out.mono ?_
              rintro e w8 ⟨rfl, h8⟩
              have HC2 := Lib.hid (halt_any (a8 : Int) h8)
              rw [← HM.out.2.2.2.2.2.2.1] at HC2
              clear h8 HC1 C7
              go_wp2_with fail
              refine HC2.out.mono ?_
              rintro e w9 ⟨rfl, h9⟩
              have HC3 := Lib.hid (topen_any nJ h9 (by decide) HM.out.2.2.2.2.2.2.2.2.2.2.2.1)
              rw [← HM.out.2.2.2.2.2.2.2.1] at HC3
              clear h9 HC2
              go_wp2_with fail
              refine HC3.out.mono ?_
              rintro e w10 (⟨h10, -⟩ | ⟨-, tp3, R3, k3, cr3, L3, rfl, -, -, h10⟩)
              · exact absurd HM.out.2.2.2.2.1 h10
              have b9 : Blk w10 (w.heap.size + 1) 25 #[.slice GA gn gc, .int .i64 gt] := by
                have := h10.memT (List.mem_cons_of_mem _ (List.mem_cons_of_mem _ HM.out.2.2.2.2.2.2.2.2.2.2.2.2.2.2.1.2.2))
                rw [HT.out.2] at this
                exact this
              have C9 := fbsays b9
              simp only [cellsSay, Nat.reduceAdd, and_true] at C9
              have HC4 := Lib.hid (crash_any gk GA gc gn HL.out.2.2.2.2.2.2 gt h10 (fun W' hs => sep_keepK hs (Nat.le_refl _) HL.out.2.2.2.1) (by omega))
              rw [← HM.out.2.2.2.2.2.2.2.2.1] at HC4
              clear h10 HC3 b9
              go_wp2_with fail
              refine HC4.out.mono ?_
              rintro e w11 ⟨rfl, h11⟩
              have HC5 := Lib.hid (topen_any nJ h11 (by decide) HM.out.2.2.2.2.2.2.2.2.2.2.2.2.1)
              rw [← HM.out.2.2.2.2.2.2.2.2.2.1] at HC5
              clear h11 HC4 C9
              go_wp2_with fail
              refine HC5.out.mono ?_
              rintro e w12 (⟨h12, -⟩ | ⟨-, tp5, R5, k5, cr5, L5, rfl, hk5, hL5, h12⟩)
              · exact absurd HM.out.1 h12
              have HC6 := Lib.hid (topen_any nJ h12 (by decide) HM.out.2.2.2.2.2.2.2.2.2.2.2.2.2.1)
              rw [← HM.out.2.2.2.2.2.2.2.2.2.2.1] at HC6
              have H5 := Lib.hid (And.intro hk5 hL5)
              clear h12 HC5 hk5 hL5
              go_wp2_with fail
              refine HC6.out.mono ?_
              rintro e w13 (⟨h13, -⟩ | ⟨-, tp6, R6, k6, cr6, L6, rfl, hk6, hL6, h13⟩)
              · exact absurd HM.out.2.2.1 h13
              have hb13 := h13.b
              have nG : Ns w13 R5 L5 := ns_of (show Gn w13 (.slice R5 k5 cr5) L5 from h13.get 2 rfl)
              have nO : Ns w13 R6 L6 := ns_of (show Gn w13 (.slice R6 k6 cr6) L6 from h13.get 0 rfl)
              obtain ⟨nA, nW⟩ := HM.out.2.2.2.2.2.2.2.2.2.2.2.2.2.2.2.1 w13 _ h13.tail.tail.tail.tail.tail.tail
              have e5 : L5.map Bx.b = G := H5.out.2.trans HM.out.2.1
              have e6 : L6.map Bx.b = G := hL6.trans HM.out.2.2.2.1
              have g5 : G.length = k5 := by rw [← e5, List.length_map]; exact H5.out.1
              have g6 : k6 = k5 := by rw [← g5, ← e6, List.length_map]; exact hk6.symm
              obtain ⟨la1, la2, la3, la4, la5, la6, la7, la8⟩ := HM.out.2.2.2.2.2.2.2.2.2.2.2.2.2.2.2.2
              have hlen5 : k5 ≤ 1000000 := by
                rcases HM.out.2.2.2.2.2.1 with ⟨-, x1, -⟩ | ⟨-, -, x1, -⟩
                · rw [List.length_map] at x1; omega
                · rw [List.length_map] at x1; omega
              have HN := Lib.hid (And.intro nG (And.intro nO (And.intro nA (And.intro nW (And.intro e5 (And.intro e6 (And.intro g5 (And.intro hk6 (And.intro hb13 HM.out.2.2.2.2.2.1)))))))))
              have HLen := Lib.hid (And.intro la1 (And.intro la2 (And.intro la3 (And.intro la4 (And.intro la5 la6)))))
              subst g6
              clear nG nO nA nW e5 e6 g5 hk6 hL6 hb13 h13 HC6 la1 la2 la3 la4 la5 la6 HM
              go_upto_region 44 with fail
              go_cut [28] from 160 to 181 (fun s28 wx => CutB (su ≤ k6 ∧ k6 ≤ an ∧ (La.map Bx.b).take k6 = G) s28 w13 wx)
              case first =>
                by_cases c1 : k6 ≤ an
                · have d1 : decide ((k6 : Int) ≤ (an : Int)) = true := decide_eq_true (by omega)
                  by_cases c2 : su ≤ k6
                  · have d2 : decide ((su : Int) ≤ (k6 : Int)) = true := decide_eq_true (by omega)
                    have hmin : min (k6 : Int) (an : Int) = (k6 : Int) := by omega
                    have hrun := run_frontM Aa an ac k6 (by have := HLen.out.2.2.1; omega) HLen.out.2.2.2.2.1 w13
                    have hll : (La.take k6).length = k6 := by rw [List.length_take, HLen.out.1]; omega
                    have HSn := Lib.hid (rsameN_any R5 Aa cr5 ac L5 (La.take k6) w13 HN.out.1 (HN.out.2.2.1.front k6) (by rw [H5.out.1]; omega) (by omega))
                    rw [hll, H5.out.1, List.map_take, HN.out.2.2.2.2.1] at HSn
                    obtain ⟨rb, hrb⟩ : ∃ rb, rb = decide (G = (La.map Bx.b).take k6) := ⟨_, rfl⟩
                    rw [← hrb] at HSn
                    have HRB := Lib.hid hrb
                    clear hll hrb
                    go_wp2_with fail
                    refine HSn.out.mono ?_
                    rintro e w14 ⟨rfl, h14⟩
                    have H14 := Lib.hid h14
                    clear h14 HSn hrun
                    go_wp2_with fail
                    go_meet
                    exact ⟨rb, rfl, fun h => by rw [HRB.out]; exact decide_eq_true h.2.2.symm, H14.out⟩
                  · have d2 : decide ((su : Int) ≤ (k6 : Int)) = false := decide_eq_false (by omega)
                    go_wp2_with fail
                    go_meet
                    exact ⟨false, rfl, fun h => absurd h.1 c2, Below.refl _ _⟩
                · have d1 : decide ((k6 : Int) ≤ (an : Int)) = false := decide_eq_false (by omega)
                  go_wp2_with fail
                  go_meet
                  exact ⟨false, rfl, fun h => absurd h.2.1 c1, Below.refl _ _⟩
              case rest =>
                obtain ⟨b1, rfl, hb1, hB1⟩ := hcut
                have HB1 := Lib.hid (And.intro hb1 hB1)
                clear hb1 hB1
                obtain ⟨w15, hw15⟩ : ∃ w15, w15 = wc := ⟨_, rfl⟩
                rw [← hw15] at HB1 ⊢
                clear hw15
                go_upto_region 45 with fail
                go_cut [29] from 182 to 203 (fun s29 wx => CutB (sw ≤ k6 ∧ k6 ≤ wn ∧ (Lw.map Bx.b).take k6 = G) s29 w15 wx)
                case first =>
                  by_cases c1 : k6 ≤ wn
                  · have d1 : decide ((k6 : Int) ≤ (wn : Int)) = true := decide_eq_true (by omega)
                    by_cases c2 : sw ≤ k6
                    · have d2 : decide ((sw : Int) ≤ (k6 : Int)) = true := decide_eq_true (by omega)
                      have hmin : min (k6 : Int) (wn : Int) = (k6 : Int) := by omega
                      have hrun := run_frontM Aw wn wk k6 (by have := HLen.out.2.2.2.1; omega) HLen.out.2.2.2.2.2 w15
                      have hll : (Lw.take k6).length = k6 := by rw [List.length_take, HLen.out.2.1]; omega
                      have HSn := Lib.hid (rsameN_any R5 Aw cr5 wk L5 (Lw.take k6) w15 (HN.out.1.below HB1.out.2) ((HN.out.2.2.2.1.below HB1.out.2).front k6) (by rw [H5.out.1]; omega) (by omega))
                      rw [hll, H5.out.1, List.map_take, HN.out.2.2.2.2.1] at HSn
                      obtain ⟨rb, hrb⟩ : ∃ rb, rb = decide (G = (Lw.map Bx.b).take k6) := ⟨_, rfl⟩
                      rw [← hrb] at HSn
                      have HRB := Lib.hid hrb
                      clear hll hrb
                      go_wp2_with fail
                      refine HSn.out.mono ?_
                      rintro e w14 ⟨rfl, h14⟩
                      have H14 := Lib.hid h14
                      clear h14 HSn hrun
                      go_wp2_with fail
                      go_meet
                      exact ⟨rb, rfl, fun h => by rw [HRB.out]; exact decide_eq_true h.2.2.symm, H14.out⟩
                    · have d2 : decide ((sw : Int) ≤ (k6 : Int)) = false := decide_eq_false (by omega)
                      go_wp2_with fail
                      go_meet
                      exact ⟨false, rfl, fun h => absurd h.1 c2, Below.refl _ _⟩
                  · have d1 : decide ((k6 : Int) ≤ (wn : Int)) = false := decide_eq_false (by omega)
                    go_wp2_with fail
                    go_meet
                    exact ⟨false, rfl, fun h => absurd h.2.1 c1, Below.refl _ _⟩
                case rest =>
                  obtain ⟨b2, rfl, hb2, hB2⟩ := hcut
                  have HB2 := Lib.hid (And.intro hb2 (on1 HB1.out.2 hB2))
                  clear hb2 hB2
                  obtain ⟨w16, hw16⟩ : ∃ w16, w16 = wc := ⟨_, rfl⟩
                  rw [← hw16] at HB2 ⊢
                  clear hw16
                  have hor : b1 = true ∨ b2 = true := by
                    have hfinal := HN.out.2.2.2.2.2.2.2.2.2
                    rw [HN.out.2.2.2.2.2.2.1, List.length_map, List.length_map, HLen.out.1, HLen.out.2.1] at hfinal
                    rcases hfinal with ⟨x1, x2, x3⟩ | ⟨-, x1, x2, x3⟩
                    · exact .inl (HB1.out.1 ⟨x1, x2, x3⟩)
                    · exact .inr (HB2.out.1 ⟨x1, x2, x3⟩)
                  have HSn := Lib.hid (rsameN_any R5 R6 cr5 cr6 L5 L6 w16 (HN.out.1.below HB2.out.2) (HN.out.2.1.below HB2.out.2) (by rw [H5.out.1]; omega) (by rw [HN.out.2.2.2.2.2.2.2.1]; omega))
                  rw [decide_eq_true (HN.out.2.2.2.2.1.trans HN.out.2.2.2.2.2.1.symm), H5.out.1, HN.out.2.2.2.2.2.2.2.1] at HSn
                  have HO := Lib.hid hor
                  clear hor
                  go_wp2_with fail
                  refine HSn.out.mono ?_
                  rintro e w17 ⟨rfl, h17⟩
                  have H17 := Lib.hid (on1 HN.out.2.2.2.2.2.2.2.2.1 (on1 HB2.out.2 h17))
                  clear h17 HSn
                  rcases HO.out with rfl | rfl
                  · go_wp2_with fail
                    go_ret
                    exact ⟨rfl, H17.out⟩
                  · cases b1 with
                    | true =>
                      go_wp2_with fail
                      go_ret
                      exact ⟨rfl, H17.out⟩
                    | false =>
                      go_wp2_with fail
                      go_ret
                      exact ⟨rfl, H17.out⟩
            | false =>
              obtain ⟨o, ho⟩ : ∃ o, l[k]? = some o := ⟨_, List.getElem?_eq_getElem (by rw [← HL.out.2.2.2.2.1]; exact hlt2)⟩
              have hom := List.mem_of_getElem? ho
              have hoo := HL.out.2.1 o hom
              have hgo := HGd.out.2 o hom
              obtain ⟨p, f, hAe, hce⟩ := HL.out.1 k o ho
              have c0 := r1.old (Nat.le_refl _) (hce 0 _ rfl)
              have c1 := r1.old (Nat.le_refl _) (hce 1 _ rfl)
              have c2 := r1.old (Nat.le_refl _) (hce 2 _ rfl)
              have c3 := r1.old (Nat.le_refl _) (hce 3 _ rfl)
              have c4 := r1.old (Nat.le_refl _) (hce 4 _ rfl)
              have c5 := r1.old (Nat.le_refl _) (hce 5 _ rfl)
              simp only [Nat.add_zero] at c0
              subst hAe
              obtain ⟨kd, oA, oc, ob, oLA, oLc, oL, on, oKA, okc, okp, oto⟩ := o
              dsimp only at c0 c1 c2 c3 c4 c5
              obtain ⟨bl, hbl⟩ : ∃ n, n = ob.length := ⟨_, rfl⟩
              obtain ⟨ll, hll⟩ : ∃ n, n = oL.length := ⟨_, rfl⟩
              obtain ⟨kl, hkl9⟩ : ∃ n, n = okp.length := ⟨_, rfl⟩
              rw [← hbl] at c1
              rw [← hll] at c2
              rw [← hkl9] at c4
              obtain ⟨m, hm⟩ : ∃ m : Nat, m = kd % 9 := ⟨_, rfl⟩
              have f0 : (kd : Int) % 9 = (m : Int) := by rw [hm]; omega
              have hm9 : m < 9 := by omega
              obtain ⟨gq, hgq⟩ : ∃ g, g = wr.heap.size := ⟨_, rfl⟩
              obtain ⟨Wb, hWb⟩ : ∃ W, W = wr.alloc (.cells #[.int .u8 (kd : Nat), .slice oA bl oc, .slice oLA ll oLc, .int .u8 (on : Nat), .slice oKA kl okc, .int .i64 oto] 65) := ⟨_, rfl⟩
              have hE : FsI w.heap.size w Wb q 20000 (thB gq 65 #[.int .u8 (kd : Nat), .slice oA bl oc, .slice oLA ll oLc, .int .u8 (on : Nat), .slice oKA kl okc, .int .i64 oto] :: us) dk := by
                rw [hWb, hgq]
                exact r1.cons (below_alloc _ _) (Blk.new _ _ _) (fun k e => by subst e; exact Nat.le_refl _)
              have HX := Lib.hid (And.intro hoo (And.intro hgo (And.intro hbl (And.intro hll (And.intro r2 (And.intro r3 (And.intro r4 (And.intro r5 (And.intro r6 (And.intro hbd hE))))))))))
              clear hoo hgo hbl hll hkl9 hm r1 r2 r3 r4 r5 r6 HR hbd hE ho hom hce
              go_wp2_with fail
              refine HHd.out.mono ?_
              rintro e w7 ⟨rfl, hw7⟩
              rw [hw7]
              clear hw7 HHd
              go_upto_region 18 with fail
              rw [← hWb, ← hgq]
              clear hWb hgq c0 c1 c2 c3 c4 c5
              have C := fbsays (show Blk Wb gq 65 #[.int .u8 (kd : Nat), .slice oA bl oc, .slice oLA ll oLc, .int .u8 (on : Nat), .slice oKA kl okc, .int .i64 oto] from HX.out.2.2.2.2.2.2.2.2.2.2.get 0 rfl)
              simp only [cellsSay, Nat.reduceAdd, and_true] at C
              have hor : m = 4 ∨ m = 5 ∨ (m < 4) ∨ 5 < m := by omega
              rcases hor with h4 | h5 | h03 | h6
              · subst h4
                obtain ⟨hoo, hgo, hbl, hll, r2, r3, r4, r5, r6, hbd, hE⟩ := HX.out
                obtain ⟨s1, s2, s3⟩ := r5.sync hbd.symm
                have HS := Lib.hid (tsync_any tp nJ hE (List.mem_cons_of_mem _ r2.1) (by decide) r6.2.2)
                have hb := bd_sync (d := dk) hE.fi nJ
                rw [s1] at HS
                obtain ⟨d2, hd2⟩ : ∃ d, d = (syncD dk nJ).2 := ⟨_, rfl⟩
                rw [← hd2] at HS s2 s3 hb
                have b1 := hb.us
                have b2 := hb.lf
                have b3 := hb.pl
                have HG := Lib.hid (show (d2.dd = true → SL d2 (La.map Bx.b) (La.map Bx.b) su su) ∧ (d2.dd = false → SL d2 (La.map Bx.b) (La.map Bx.b) an su) ∧ ((usedD d2 : Int) ≤ ((20000 : Nat) : Int) ∧ d2.P.length ≤ 11 * (k + 1) ∧ d2.lf ≤ 1000000) from ⟨s2, by rw [← r4.1]; intro e; have := s3 e; rw [List.length_map] at this; exact this, by omega, by omega, by omega⟩)
                clear hoo hgo hbl hll r2 r3 r4 r5 r6 hbd hE s1 s2 s3 hb b1 b2 b3 hd2
                go_wp2_with fail
                refine HS.out.mono ?_
                rintro e w8 ⟨rfl, h8⟩
                have HD := Lib.hid (halted_any h8)
                have H8 := Lib.hid h8
                clear h8 HS
                cases hdd : d2.dd with
                | true =>
                  rw [hdd] at HD
                  have HG2 := Lib.hid (HG.out.1 hdd)
                  clear hdd
                  go_wp2_with fail
                  refine HD.out.mono ?_
                  rintro e w9 ⟨rfl, hw9⟩
                  rw [hw9]
                  clear hw9 HD
                  go_wp2_with fail
                  go_roundw
                  case measure => simp [intOf]; omega
                  case rel => exact ⟨k + 1, Aa, an, ac, Aa, an, ac, su, su, by omega, by go_num, rfl, rfl, rfl, rfl, Lib.hid ⟨_, d2, La, La, H8.out, ⟨List.mem_cons_of_mem _ HX.out.2.2.2.2.1.1, List.mem_cons_of_mem _ HX.out.2.2.2.2.1.2.1, List.mem_cons_of_mem _ HX.out.2.2.2.2.1.2.2⟩, fun W d' hs => ⟨(HX.out.2.2.2.2.2.1 W d' hs.tail).1, (HX.out.2.2.2.2.2.1 W d' hs.tail).1⟩, ⟨HX.out.2.2.2.2.2.2.1.1, HX.out.2.2.2.2.2.2.1.1, HX.out.2.2.2.2.2.2.1.2.2.1, HX.out.2.2.2.2.2.2.1.2.2.1, HX.out.2.2.2.2.2.2.1.2.2.2.2.1, HX.out.2.2.2.2.2.2.1.2.2.2.2.1, by have := HX.out.2.2.2.2.2.2.1.2.2.2.2.2.2.1; omega, by have := HX.out.2.2.2.2.2.2.1.2.2.2.2.2.2.1; omega⟩, HG2.out, HG.out.2.2⟩⟩
                | false =>
                  rw [hdd] at HD
                  have HG2 := Lib.hid (HG.out.2.1 hdd)
                  clear hdd
                  go_wp2_with fail
                  refine HD.out.mono ?_
                  rintro e w9 ⟨rfl, hw9⟩
                  rw [hw9]
                  clear hw9 HD
                  go_wp2_with fail
                  go_roundw
                  case measure => simp [intOf]; omega
                  case rel => exact ⟨k + 1, Aa, an, ac, Aa, an, ac, an, su, by omega, by go_num, rfl, rfl, rfl, rfl, Lib.hid ⟨_, d2, La, La, H8.out, ⟨List.mem_cons_of_mem _ HX.out.2.2.2.2.1.1, List.mem_cons_of_mem _ HX.out.2.2.2.2.1.2.1, List.mem_cons_of_mem _ HX.out.2.2.2.2.1.2.2⟩, fun W d' hs => ⟨(HX.out.2.2.2.2.2.1 W d' hs.tail).1, (HX.out.2.2.2.2.2.1 W d' hs.tail).1⟩, ⟨HX.out.2.2.2.2.2.2.1.1, HX.out.2.2.2.2.2.2.1.1, HX.out.2.2.2.2.2.2.1.2.2.1, HX.out.2.2.2.2.2.2.1.2.2.1, HX.out.2.2.2.2.2.2.1.2.2.2.2.1, HX.out.2.2.2.2.2.2.1.2.2.2.2.1, by have := HX.out.2.2.2.2.2.2.1.2.2.2.2.2.2.1; omega, by have := HX.out.2.2.2.2.2.2.1.2.2.2.2.2.2.1; omega⟩, HG2.out, HG.out.2.2⟩⟩
              · subst h5
                obtain ⟨hoo, hgo, hbl, hll, r2, r3, r4, r5, r6, hbd, hE⟩ := HX.out
                have hl10 : oL.length ≤ 10 := hgo.2.1
                obtain ⟨s1, s2⟩ := r5.swap hbd.symm ((20000 : Nat) : Int) (oL.map Bx.b)
                have HS := Lib.hid (swap_any tp nJ oLA oLc oL hE (List.mem_cons_of_mem _ r2.1) (by decide) (fun W' d' hs => ⟨hoo.row.below hs.b (Nat.le_refl _), fun x hx => (hoo.el x hx).1.below hs.b⟩) (fun x hx => (hoo.el x hx).2.1) (fun x hx => by have : x.b.length ≤ 700 := hgo.2.2.2 x hx; omega) r6.2.2 (by omega) (by omega) (by omega))
                have hb := bd_swap (d := dk) hE.fi ((20000 : Nat) : Int) nJ (oL.map Bx.b) (by rw [List.length_map]; omega) (by rw [List.length_map]; omega)
                have hrm := rm_swap (room := ((20000 : Nat) : Int)) (d := dk) hE.fi nJ (oL.map Bx.b) (by rw [List.length_map]; omega) (by rw [List.length_map]; omega) r6.1
                have hk9 := swap_k ((20000 : Nat) : Int) dk nJ (oL.map Bx.b)
                obtain ⟨D, hD⟩ : ∃ d, d = swapD ((20000 : Nat) : Int) dk nJ (oL.map Bx.b) := ⟨_, rfl⟩
                rw [← hD] at HS s1 s2 hb hrm hk9
                rw [← hll] at HS
                have b2 := hb.lf
                have b3 := hb.pl
                rw [List.length_map] at b3
                have HG := Lib.hid (show (D.1 = 0 → SL D.2 (oL.map Bx.b) (La.map Bx.b) ll su) ∧ (D.1 ≠ 0 → SL D.2 (La.map Bx.b) (La.map Bx.b) su su) ∧ ((usedD D.2 : Int) ≤ ((20000 : Nat) : Int) ∧ D.2.P.length ≤ 11 * (k + 1) ∧ D.2.lf ≤ 1000000) ∧ ll ≤ 10 from ⟨fun e => by have := s1 e; rw [List.length_map, ← hll] at this; exact this, s2, ⟨hrm, by omega, by omega⟩, by omega⟩)
                clear hoo hgo hbl hll r2 r3 r4 r5 r6 hbd hE s1 s2 hb b2 b3 hD hrm hl10
                by_cases hz : D.1 = 0
                · have kc : ((D.1 : Int) == 0) = true := beq_iff_eq.2 (by omega)
                  have HG2 := Lib.hid (HG.out.1 hz)
                  clear hz
                  go_wp2_with fail
                  refine HS.out.mono ?_
                  rintro e w8 ⟨rfl, h8⟩
                  have H8 := Lib.hid h8
                  replace C := fbsays (show Blk w8 gq 65 #[.int .u8 (kd : Nat), .slice oA bl oc, .slice oLA ll oLc, .int .u8 (on : Nat), .slice oKA kl okc, .int .i64 oto] from h8.get 0 rfl)
                  simp only [cellsSay, Nat.reduceAdd, and_true] at C
                  clear h8 HS
                  go_wp2_with fail
                  go_roundw
                  case measure => simp [intOf]; omega
                  case rel => exact ⟨k + 1, oLA, ll, oLc, Aa, an, ac, ll, su, by omega, by go_num, rfl, rfl, rfl, rfl, Lib.hid ⟨_, D.2, oL, La, H8.out, ⟨List.mem_cons_of_mem _ HX.out.2.2.2.2.1.1, List.mem_cons_of_mem _ HX.out.2.2.2.2.1.2.1, List.mem_cons_of_mem _ HX.out.2.2.2.2.1.2.2⟩, fun W d' hs => ⟨⟨HX.out.1.row.below hs.b (Nat.le_refl _), fun x hx => (HX.out.1.el x hx).1.below hs.b⟩, (HX.out.2.2.2.2.2.1 W d' hs.tail).1⟩, ⟨HX.out.2.2.2.1.symm, HX.out.2.2.2.2.2.2.1.1, by have := HX.out.1.lc.1; rw [HX.out.2.2.2.1]; exact this, HX.out.2.2.2.2.2.2.1.2.2.1, HX.out.1.lc.2, HX.out.2.2.2.2.2.2.1.2.2.2.2.1, by have := HG.out.2.2.2; omega, by have := HX.out.2.2.2.2.2.2.1.2.2.2.2.2.2.1; omega⟩, HG2.out, HG.out.2.2.1⟩⟩
                · have kc : ((D.1 : Int) == 0) = false := beq_eq_false_iff_ne.2 (by omega)
                  have HG2 := Lib.hid (HG.out.2.1 hz)
                  clear hz
                  go_wp2_with fail
                  refine HS.out.mono ?_
                  rintro e w8 ⟨rfl, h8⟩
                  have H8 := Lib.hid h8
                  clear h8 HS
                  go_wp2_with fail
                  go_roundw
                  case measure => simp [intOf]; omega
                  case rel => exact ⟨k + 1, Aa, an, ac, Aa, an, ac, su, su, by omega, by go_num, rfl, rfl, rfl, rfl, Lib.hid ⟨_, D.2, La, La, H8.out, ⟨List.mem_cons_of_mem _ HX.out.2.2.2.2.1.1, List.mem_cons_of_mem _ HX.out.2.2.2.2.1.2.1, List.mem_cons_of_mem _ HX.out.2.2.2.2.1.2.2⟩, fun W d' hs => ⟨(HX.out.2.2.2.2.2.1 W d' hs.tail).1, (HX.out.2.2.2.2.2.1 W d' hs.tail).1⟩, ⟨HX.out.2.2.2.2.2.2.1.1, HX.out.2.2.2.2.2.2.1.1, HX.out.2.2.2.2.2.2.1.2.2.1, HX.out.2.2.2.2.2.2.1.2.2.1, HX.out.2.2.2.2.2.2.1.2.2.2.2.1, HX.out.2.2.2.2.2.2.1.2.2.2.2.1, by have := HX.out.2.2.2.2.2.2.1.2.2.2.2.2.2.1; omega, by have := HX.out.2.2.2.2.2.2.1.2.2.2.2.2.2.1; omega⟩, HG2.out, HG.out.2.2.1⟩⟩
              · obtain ⟨hoo, hgo, hbl, hll, r2, r3, r4, r5, r6, hbd, hE⟩ := HX.out
                obtain ⟨s1, s2⟩ := r5.app hbd.symm ((20000 : Nat) : Int) ob
                have HS := Lib.hid (tappend_any tp nJ oA oc ob hE (List.mem_cons_of_mem _ r2.1) (by decide) (hoo.b.1.below hE.b) hoo.b.2.1 (by have : ob.length ≤ 700 := hgo.1; omega) r6.2.2 (by omega) (by omega) (by omega))
                have hb := bd_tappend (d := dk) hE.fi ((20000 : Nat) : Int) nJ ob (by omega) (by omega)
                have hrm := rm_tappend (room := ((20000 : Nat) : Int)) (d := dk) hE.fi nJ ob (by omega) (by omega) r6.1
                have hk9 := tapp_k ((20000 : Nat) : Int) dk nJ ob
                obtain ⟨D, hD⟩ : ∃ d, d = tappendD ((20000 : Nat) : Int) dk nJ ob := ⟨_, rfl⟩
                rw [← hD] at HS s1 s2 hb hrm hk9
                rw [← hbl] at HS
                have b2 := hb.lf
                have b3 := hb.pl
                have HG := Lib.hid (show (D.1 = 0 → SL D.2 ((La ++ [(⟨oA, oc, ob⟩ : Bx)]).map Bx.b) (La.map Bx.b) su su) ∧ (D.1 ≠ 0 → SL D.2 (La.map Bx.b) (La.map Bx.b) su su) ∧ ((usedD D.2 : Int) ≤ ((20000 : Nat) : Int) ∧ D.2.P.length ≤ 11 * (k + 1) ∧ D.2.lf ≤ 1000000) from ⟨fun e => by rw [List.map_append]; exact s1 e, s2, hrm, by omega, by omega⟩)
                clear hoo hgo hbl hll r2 r3 r4 r5 r6 hbd hE s1 s2 hb b2 b3 hD hrm
                by_cases hz : D.1 = 0
                · have kc : ((D.1 : Int) == 0) = true := beq_iff_eq.2 (by omega)
                  have HG2 := Lib.hid (HG.out.1 hz)
                  have han : an ≤ 40 := by have := HX.out.2.2.2.2.2.2.1.2.2.2.2.2.2.1; omega
                  clear hz
                  have hm4 : m = 0 ∨ m = 1 ∨ m = 2 ∨ m = 3 := by omega
                  rcases hm4 with rfl | rfl | rfl | rfl
                  all_goals
                    go_wp2_with fail
                    refine HS.out.mono ?_
                    rintro e w8 ⟨rfl, h8⟩
                    have H8 := Lib.hid h8
                    replace C := fbsays (show Blk w8 gq 65 #[.int .u8 (kd : Nat), .slice oA bl oc, .slice oLA ll oLc, .int .u8 (on : Nat), .slice oKA kl okc, .int .i64 oto] from h8.get 0 rfl)
                    simp only [cellsSay, Nat.reduceAdd, and_true] at C
                    have hNa := (HX.out.2.2.2.2.2.1 w8 _ h8.tail).1.row
                    have HNa := Lib.hid hNa
                    have HLa := Lib.hid (HX.out.2.2.2.2.2.2.1.1)
                    clear h8 HS hNa
                    go_upto_region 33 with (at_builtin; go_must (refine appR Try.eltN _ rfl (.tmp 121) (.tmp 122) rfl w8.heap.size (.slice none 0 0) ([] : List Bx) rfl (OwnR.nil _ _ _ _ _) Aa ac La (by rw [HLa.out]; rfl) HNa.out (by rw [HLa.out]; simp; unfold maxLen; omega) (by rw [HLa.out]; simp; omega) (Nat.le_refl _) ?_); intro A9 c9 w9 hown9 hb9)
                    rw [HLa.out] at hown9 ⊢
                    simp only [List.length_nil, Nat.zero_add, List.nil_append] at hown9 ⊢
                    have C2 := fbsays (Blk.below (show Blk w8 gq 65 #[.int .u8 (kd : Nat), .slice oA bl oc, .slice oLA ll oLc, .int .u8 (on : Nat), .slice oKA kl okc, .int .i64 oto] from H8.out.get 0 rfl) hb9 (H8.out.get 0 rfl : Blk w8 gq _ _).lt)
                    simp only [cellsSay, Nat.reduceAdd, and_true] at C2
                    have HB9 := Lib.hid (And.intro hb9 hown9)
                    have HR1 := Lib.hid (OwnR.alloc hown9 (.cells #[.slice oA bl oc] 32))
                    have h5n : La.length + 1 ≤ maxLen := by rw [HLa.out]; unfold maxLen; omega
                    have h6n : (La.length + 1) * 24 ≤ 140737488355328 := by rw [HLa.out]; omega
                    have h8s : w8.heap.size ≤ (w9.alloc (.cells #[.slice oA bl oc] 32)).heap.size := (hb9.alloc hb9.size _).size
                    clear hb9 hown9 C
                    go_wp2_with (at_builtin; go_must (refine appR1L Try.eltN _ rfl (.tmp 124) (.tmp 127) rfl w8.heap.size (.slice A9 an c9) La rfl HR1.out w9.heap.size 1 ⟨oA, oc, ob⟩ 32 _ rfl (Blk.new w9 _ _) (by rw [HX.out.2.2.1]; rfl) h5n h6n h8s ?_); intro g8 c8 w10 hown8 hgr8 hor8 hlt8; have H10 := Lib.hid (And.intro hown8 (Below.grown (HB9.out.1.alloc HB9.out.1.size _) hgr8 h8s (fun k e => (World.ownsRow.lt HR1.out k e).1))); clear hown8 hgr8 hor8 hlt8)
                    have hfin : FsI w.heap.size w w10 q 20000 (thR 32 encBx 1 (.slice (some ⟨g8, 0, none⟩) (La.length + 1) c8) (La ++ [⟨oA, oc, ob⟩]) :: thB gq 65 #[.int .u8 (kd : Nat), .slice oA bl oc, .slice oLA ll oLc, .int .u8 (on : Nat), .slice oKA kl okc, .int .i64 oto] :: us) D.2 := H8.out.cons H10.out.2 (OwnR.mono H10.out.1 (Nat.zero_le _)) (fun k hk => (World.ownsRow.lt H10.out.1 k hk).1)
                    have HFN := Lib.hid hfin
                    have hcap : La.length + 1 ≤ c8 := by
                      obtain ⟨V0, m0, hV0, hm0, -⟩ := OwnR.row Try.eltN H10.out.1
                      have e1 : c8 = m0 := by injection hV0
                      rw [e1]
                      rw [List.length_append] at hm0
                      exact hm0
                    have HCap := Lib.hid hcap
                    rw [HLa.out] at HFN HCap ⊢
                    clear hfin hcap
                    go_roundw
                    case measure => simp [intOf]; omega
                    case rel => exact ⟨k + 1, some ⟨g8, 0, none⟩, an + 1, c8, Aa, an, ac, su, su, by omega, by go_num, rfl, rfl, rfl, rfl, Lib.hid ⟨_, D.2, La ++ [⟨oA, oc, ob⟩], La, HFN.out, ⟨List.mem_cons_of_mem _ (List.mem_cons_of_mem _ HX.out.2.2.2.2.1.1), List.mem_cons_of_mem _ (List.mem_cons_of_mem _ HX.out.2.2.2.2.1.2.1), List.mem_cons_of_mem _ (List.mem_cons_of_mem _ HX.out.2.2.2.2.1.2.2)⟩, fun W d' hs => ⟨by
                      obtain ⟨V0, m0, hV0, hm0, hrw⟩ := OwnR.row Try.eltN (show OwnR W 0 32 encBx 1 (.slice (some ⟨g8, 0, none⟩) (an + 1) c8) (La ++ [⟨oA, oc, ob⟩]) from hs.get 0 rfl)
                      have eV : (some ⟨g8, 0, none⟩ : Option Addr) = V0 := by injection hV0
                      subst eV
                      refine ⟨hrw, fun x hx => ?_⟩
                      rw [List.mem_append, List.mem_singleton] at hx
                      rcases hx with hx | rfl
                      · exact (HX.out.2.2.2.2.2.1 W d' hs.tail.tail).1.by_ x hx
                      · exact HX.out.1.b.1.below hs.b, (HX.out.2.2.2.2.2.1 W d' hs.tail.tail).1⟩, ⟨by rw [List.length_append, HX.out.2.2.2.2.2.2.1.1]; rfl, HX.out.2.2.2.2.2.2.1.1, HCap.out, HX.out.2.2.2.2.2.2.1.2.2.1, (fun e => by cases e), HX.out.2.2.2.2.2.2.1.2.2.2.2.1, by have := HX.out.2.2.2.2.2.2.1.2.2.2.2.2.2.1; omega, by have := HX.out.2.2.2.2.2.2.1.2.2.2.2.2.2.1; omega⟩, HG2.out, HG.out.2.2⟩⟩
                · have kc : ((D.1 : Int) == 0) = false := beq_eq_false_iff_ne.2 (by omega)
                  have HG2 := Lib.hid (HG.out.2.1 hz)
                  clear hz
                  have hm4 : m = 0 ∨ m = 1 ∨ m = 2 ∨ m = 3 := by omega
                  rcases hm4 with rfl | rfl | rfl | rfl
                  all_goals
                    go_wp2_with fail
                    refine HS.out.mono ?_
                    rintro e w8 ⟨rfl, h8⟩
                    have H8 := Lib.hid h8
                    clear h8 HS
                    go_wp2_with fail
                    go_roundw
                    case measure => simp [intOf]; omega
                    case rel => exact ⟨k + 1, Aa, an, ac, Aa, an, ac, su, su, by omega, by go_num, rfl, rfl, rfl, rfl, Lib.hid ⟨_, D.2, La, La, H8.out, ⟨List.mem_cons_of_mem _ HX.out.2.2.2.2.1.1, List.mem_cons_of_mem _ HX.out.2.2.2.2.1.2.1, List.mem_cons_of_mem _ HX.out.2.2.2.2.1.2.2⟩, fun W d' hs => ⟨(HX.out.2.2.2.2.2.1 W d' hs.tail).1, (HX.out.2.2.2.2.2.1 W d' hs.tail).1⟩, ⟨HX.out.2.2.2.2.2.2.1.1, HX.out.2.2.2.2.2.2.1.1, HX.out.2.2.2.2.2.2.1.2.2.1, HX.out.2.2.2.2.2.2.1.2.2.1, HX.out.2.2.2.2.2.2.1.2.2.2.2.1, HX.out.2.2.2.2.2.2.1.2.2.2.2.1, by have := HX.out.2.2.2.2.2.2.1.2.2.2.2.2.2.1; omega, by have := HX.out.2.2.2.2.2.2.1.2.2.2.2.2.2.1; omega⟩, HG2.out, HG.out.2.2⟩⟩
              · have g0 : ((m : Int) == 0) = false := beq_eq_false_iff_ne.2 (by omega)
                have g1 : ((m : Int) == 1) = false := beq_eq_false_iff_ne.2 (by omega)
                have g2 : ((m : Int) == 2) = false := beq_eq_false_iff_ne.2 (by omega)
                have g3 : ((m : Int) == 3) = false := beq_eq_false_iff_ne.2 (by omega)
                have g4 : ((m : Int) == 4) = false := beq_eq_false_iff_ne.2 (by omega)
                have g5 : ((m : Int) == 5) = false := beq_eq_false_iff_ne.2 (by omega)
                go_wp2_with fail
                go_roundw
                case measure => simp [intOf]; omega
                case rel => exact ⟨k + 1, Aa, an, ac, Aa, an, ac, su, su, by omega, by go_num, rfl, rfl, rfl, rfl, Lib.hid ⟨_, dk, La, La, HX.out.2.2.2.2.2.2.2.2.2.2, ⟨List.mem_cons_of_mem _ HX.out.2.2.2.2.1.1, List.mem_cons_of_mem _ HX.out.2.2.2.2.1.2.1, List.mem_cons_of_mem _ HX.out.2.2.2.2.1.2.2⟩, fun W d' hs => ⟨(HX.out.2.2.2.2.2.1 W d' hs.tail).1, (HX.out.2.2.2.2.2.1 W d' hs.tail).1⟩, ⟨HX.out.2.2.2.2.2.2.1.1, HX.out.2.2.2.2.2.2.1.1, HX.out.2.2.2.2.2.2.1.2.2.1, HX.out.2.2.2.2.2.2.1.2.2.1, HX.out.2.2.2.2.2.2.1.2.2.2.2.1, HX.out.2.2.2.2.2.2.1.2.2.2.2.1, by have := HX.out.2.2.2.2.2.2.1.2.2.2.2.2.2.1; omega, by have := HX.out.2.2.2.2.2.2.1.2.2.2.2.2.2.1; omega⟩, HX.out.2.2.2.2.2.2.2.1.none HX.out.2.2.2.2.2.2.2.2.2.1.symm, by have := HX.out.2.2.2.2.2.2.2.2.1; omega⟩⟩
          · obtain rfl : k = n := by omega
            have hkk : ¬ ((k : Int) < (k : Int)) := by omega
            cases bd with
            | true =>
              have HE := Lib.hid (And.intro r1 (And.intro r2 (And.intro r3 (And.intro r4 r5))))
              clear r1 r2 r3 r4 r5 r6 HR hbd
              go_wp2_with fail
              refine HHd.out.mono ?_
              rintro e w7 ⟨rfl, hw7⟩
              rw [hw7]
              clear hw7
              clear HHd
              obtain ⟨r1, r2, r3, r4, rS⟩ := HE.out
              obtain ⟨G, m1, m2, m3, m4, m5, m6⟩ := rS.last (kpt fk) (kpt gk) ft gt (a8 : Int)
              have f0 : Fx dk := r1.fi
              have b7 : Blk wr w.heap.size 25 #[.slice FA fn fc, .int .i64 ft] := by
                have := r1.memT r2.2.1
                rw [HT.out.1] at this
                exact this
              have C7 := fbsays b7
              simp only [cellsSay, Nat.reduceAdd, and_true] at C7
              have HC1 := Lib.hid (crash_any fk FA fc fn HL.out.2.2.2.2.2.1 ft r1 (fun W' hs => sep_keepK hs (Nat.le_refl _) HL.out.2.2.1) (by omega))
              obtain ⟨d1, hd1⟩ : ∃ d, d = crashD dk (kpt fk) ft := ⟨_, rfl⟩
              have f1 : Fx d1 := by rw [hd1]; exact fx_crash f0 _ _
              rw [← hd1] at HC1 m1 m2 m3 m4 m5
              obtain ⟨d2, hd2⟩ : ∃ d, d = haltD d1 (a8 : Int) := ⟨_, rfl⟩
              have f2 : Fx d2 := by rw [hd2]; exact fx_same f1 rfl rfl
              have l2 : d2.lf ≤ 1000000 := by rw [hd2]; show ((a8 : Int)).toNat ≤ _; omega
              rw [← hd2] at m1 m2 m3 m4 m5
              have f3 := bd_open f2 nJ
              obtain ⟨D3, hD3⟩ : ∃ d, d = topenD d2 nJ := ⟨_, rfl⟩
              rw [← hD3] at m1 m2 m3 m4 m5 f3
              obtain ⟨d4, hd4⟩ : ∃ d, d = crashD D3.2.2 (kpt gk) gt := ⟨_, rfl⟩
              have f4 : Fx d4 := by rw [hd4]; exact fx_crash f3.fx _ _
              have l4 : d4.lf ≤ 1000000 := by rw [hd4]; exact Nat.zero_le _
              rw [← hd4] at m1 m2 m3 m4
              have f5 := bd_open f4 nJ
              obtain ⟨D5, hD5⟩ : ∃ d, d = topenD d4 nJ := ⟨_, rfl⟩
              rw [← hD5] at m1 m2 m3 m4 f5
              obtain ⟨D6, hD6⟩ : ∃ d, d = topenD D5.2.2 nJ := ⟨_, rfl⟩
              rw [← hD6] at m3 m4
              have l5 : D5.2.2.lf ≤ 1000000 := Nat.le_trans f5.lf l4
              have HM := Lib.hid (And.intro m1 (And.intro m2 (And.intro m3 (And.intro m4 (And.intro m5 (And.intro m6 (And.intro hd2 (And.intro hD3 (And.intro hd4 (And.intro hD5 (And.intro hD6 (And.intro l2 (And.intro l4 (And.intro l5 (And.intro r2 (And.intro r3 r4))))))))))))))))
              clear m1 m2 m3 m4 m5 m6 hd1 hd2 hD3 hd4 hD5 hD6 f0 f1 f2 f3 f4 f5 l2 l4 l5 rS r1 r2 r3 r4 b7
              go_wp2_with fail
              refine HC1.out.mono ?_
              rintro e w8 ⟨rfl, h8⟩
              have HC2 := Lib.hid (halt_any (a8 : Int) h8)
              rw [← HM.out.2.2.2.2.2.2.1] at HC2
              clear h8 HC1 C7
              go_wp2_with fail
              refine HC2.out.mono ?_
              rintro e w9 ⟨rfl, h9⟩
              have HC3 := Lib.hid (topen_any nJ h9 (by decide) HM.out.2.2.2.2.2.2.2.2.2.2.2.1)
              rw [← HM.out.2.2.2.2.2.2.2.1] at HC3
              clear h9 HC2
              go_wp2_with fail
              refine HC3.out.mono ?_
              rintro e w10 (⟨h10, -⟩ | ⟨-, tp3, R3, k3, cr3, L3, rfl, -, -, h10⟩)
              · exact absurd HM.out.2.2.2.2.1 h10
              have b9 : Blk w10 (w.heap.size + 1) 25 #[.slice GA gn gc, .int .i64 gt] := by
                have := h10.memT (List.mem_cons_of_mem _ (List.mem_cons_of_mem _ HM.out.2.2.2.2.2.2.2.2.2.2.2.2.2.2.1.2.2))
                rw [HT.out.2] at this
                exact this
              have C9 := fbsays b9
              simp only [cellsSay, Nat.reduceAdd, and_true] at C9
              have HC4 := Lib.hid (crash_any gk GA gc gn HL.out.2.2.2.2.2.2 gt h10 (fun W' hs => sep_keepK hs (Nat.le_refl _) HL.out.2.2.2.1) (by omega))
              rw [← HM.out.2.2.2.2.2.2.2.2.1] at HC4
              clear h10 HC3 b9
              go_wp2_with fail
              refine HC4.out.mono ?_
              rintro e w11 ⟨rfl, h11⟩
              have HC5 := Lib.hid (topen_any nJ h11 (by decide) HM.out.2.2.2.2.2.2.2.2.2.2.2.2.1)
              rw [← HM.out.2.2.2.2.2.2.2.2.2.1] at HC5
              clear h11 HC4 C9
              go_wp2_with fail
              refine HC5.out.mono ?_
              rintro e w12 (⟨h12, -⟩ | ⟨-, tp5, R5, k5, cr5, L5, rfl, hk5, hL5, h12⟩)
              · exact absurd HM.out.1 h12
              have HC6 := Lib.hid (topen_any nJ h12 (by decide) HM.out.2.2.2.2.2.2.2.2.2.2.2.2.2.1)
              rw [← HM.out.2.2.2.2.2.2.2.2.2.2.1] at HC6
              have H5 := Lib.hid (And.intro hk5 hL5)
              clear h12 HC5 hk5 hL5
              go_wp2_with fail
              refine HC6.out.mono ?_
              rintro e w13 (⟨h13, -⟩ | ⟨-, tp6, R6, k6, cr6, L6, rfl, hk6, hL6, h13⟩)
              · exact absurd HM.out.2.2.1 h13
              have hb13 := h13.b
              have nG : Ns w13 R5 L5 := ns_of (show Gn w13 (.slice R5 k5 cr5) L5 from h13.get 2 rfl)
              have nO : Ns w13 R6 L6 := ns_of (show Gn w13 (.slice R6 k6 cr6) L6 from h13.get 0 rfl)
              obtain ⟨nA, nW⟩ := HM.out.2.2.2.2.2.2.2.2.2.2.2.2.2.2.2.1 w13 _ h13.tail.tail.tail.tail.tail.tail
              have e5 : L5.map Bx.b = G := H5.out.2.trans HM.out.2.1
              have e6 : L6.map Bx.b = G := hL6.trans HM.out.2.2.2.1
              have g5 : G.length = k5 := by rw [← e5, List.length_map]; exact H5.out.1
              have g6 : k6 = k5 := by rw [← g5, ← e6, List.length_map]; exact hk6.symm
              obtain ⟨la1, la2, la3, la4, la5, la6, la7, la8⟩ := HM.out.2.2.2.2.2.2.2.2.2.2.2.2.2.2.2.2
              have hlen5 : k5 ≤ 1000000 := by
                rcases HM.out.2.2.2.2.2.1 with ⟨-, x1, -⟩ | ⟨-, -, x1, -⟩
                · rw [List.length_map] at x1; omega
                · rw [List.length_map] at x1; omega
              have HN := Lib.hid (And.intro nG (And.intro nO (And.intro nA (And.intro nW (And.intro e5 (And.intro e6 (And.intro g5 (And.intro hk6 (And.intro hb13 HM.out.2.2.2.2.2.1)))))))))
              have HLen := Lib.hid (And.intro la1 (And.intro la2 (And.intro la3 (And.intro la4 (And.intro la5 la6)))))
              subst g6
              clear nG nO nA nW e5 e6 g5 hk6 hL6 hb13 h13 HC6 la1 la2 la3 la4 la5 la6 HM
              go_upto_region 44 with fail
              go_cut [28] from 160 to 181 (fun s28 wx => CutB (su ≤ k6 ∧ k6 ≤ an ∧ (La.map Bx.b).take k6 = G) s28 w13 wx)
              case first =>
                by_cases c1 : k6 ≤ an
                · have d1 : decide ((k6 : Int) ≤ (an : Int)) = true := decide_eq_true (by omega)
                  by_cases c2 : su ≤ k6
                  · have d2 : decide ((su : Int) ≤ (k6 : Int)) = true := decide_eq_true (by omega)
                    have hmin : min (k6 : Int) (an : Int) = (k6 : Int) := by omega
                    have hrun := run_frontM Aa an ac k6 (by have := HLen.out.2.2.1; omega) HLen.out.2.2.2.2.1 w13
                    have hll : (La.take k6).length = k6 := by rw [List.length_take, HLen.out.1]; omega
                    have HSn := Lib.hid (rsameN_any R5 Aa cr5 ac L5 (La.take k6) w13 HN.out.1 (HN.out.2.2.1.front k6) (by rw [H5.out.1]; omega) (by omega))
                    rw [hll, H5.out.1, List.map_take, HN.out.2.2.2.2.1] at HSn
                    obtain ⟨rb, hrb⟩ : ∃ rb, rb = decide (G = (La.map Bx.b).take k6) := ⟨_, rfl⟩
                    rw [← hrb] at HSn
                    have HRB := Lib.hid hrb
                    clear hll hrb
                    go_wp2_with fail
                    refine HSn.out.mono ?_
                    rintro e w14 ⟨rfl, h14⟩
                    have H14 := Lib.hid h14
                    clear h14 HSn hrun
                    go_wp2_with fail
                    go_meet
                    exact ⟨rb, rfl, fun h => by rw [HRB.out]; exact decide_eq_true h.2.2.symm, H14.out⟩
                  · have d2 : decide ((su : Int) ≤ (k6 : Int)) = false := decide_eq_false (by omega)
                    go_wp2_with fail
                    go_meet
                    exact ⟨false, rfl, fun h => absurd h.1 c2, Below.refl _ _⟩
                · have d1 : decide ((k6 : Int) ≤ (an : Int)) = false := decide_eq_false (by omega)
                  go_wp2_with fail
                  go_meet
                  exact ⟨false, rfl, fun h => absurd h.2.1 c1, Below.refl _ _⟩
              case rest =>
                obtain ⟨b1, rfl, hb1, hB1⟩ := hcut
                have HB1 := Lib.hid (And.intro hb1 hB1)
                clear hb1 hB1
                obtain ⟨w15, hw15⟩ : ∃ w15, w15 = wc := ⟨_, rfl⟩
                rw [← hw15] at HB1 ⊢
                clear hw15
                go_upto_region 45 with fail
                go_cut [29] from 182 to 203 (fun s29 wx => CutB (sw ≤ k6 ∧ k6 ≤ wn ∧ (Lw.map Bx.b).take k6 = G) s29 w15 wx)
                case first =>
                  by_cases c1 : k6 ≤ wn
                  · have d1 : decide ((k6 : Int) ≤ (wn : Int)) = true := decide_eq_true (by omega)
                    by_cases c2 : sw ≤ k6
                    · have d2 : decide ((sw : Int) ≤ (k6 : Int)) = true := decide_eq_true (by omega)
                      have hmin : min (k6 : Int) (wn : Int) = (k6 : Int) := by omega
                      have hrun := run_frontM Aw wn wk k6 (by have := HLen.out.2.2.2.1; omega) HLen.out.2.2.2.2.2 w15
                      have hll : (Lw.take k6).length = k6 := by rw [List.length_take, HLen.out.2.1]; omega
                      have HSn := Lib.hid (rsameN_any R5 Aw cr5 wk L5 (Lw.take k6) w15 (HN.out.1.below HB1.out.2) ((HN.out.2.2.2.1.below HB1.out.2).front k6) (by rw [H5.out.1]; omega) (by omega))
                      rw [hll, H5.out.1, List.map_take, HN.out.2.2.2.2.1] at HSn
                      obtain ⟨rb, hrb⟩ : ∃ rb, rb = decide (G = (Lw.map Bx.b).take k6) := ⟨_, rfl⟩
                      rw [← hrb] at HSn
                      have HRB := Lib.hid hrb
                      clear hll hrb
                      go_wp2_with fail
                      refine HSn.out.mono ?_
                      rintro e w14 ⟨rfl, h14⟩
                      have H14 := Lib.hid h14
                      clear h14 HSn hrun
                      go_wp2_with fail
                      go_meet
                      exact ⟨rb, rfl, fun h => by rw [HRB.out]; exact decide_eq_true h.2.2.symm, H14.out⟩
                    · have d2 : decide ((sw : Int) ≤ (k6 : Int)) = false := decide_eq_false (by omega)
                      go_wp2_with fail
                      go_meet
                      exact ⟨false, rfl, fun h => absurd h.1 c2, Below.refl _ _⟩
                  · have d1 : decide ((k6 : Int) ≤ (wn : Int)) = false := decide_eq_false (by omega)
                    go_wp2_with fail
                    go_meet
                    exact ⟨false, rfl, fun h => absurd h.2.1 c1, Below.refl _ _⟩
                case rest =>
                  obtain ⟨b2, rfl, hb2, hB2⟩ := hcut
                  have HB2 := Lib.hid (And.intro hb2 (on1 HB1.out.2 hB2))
                  clear hb2 hB2
                  obtain ⟨w16, hw16⟩ : ∃ w16, w16 = wc := ⟨_, rfl⟩
                  rw [← hw16] at HB2 ⊢
                  clear hw16
                  have hor : b1 = true ∨ b2 = true := by
                    have hfinal := HN.out.2.2.2.2.2.2.2.2.2
                    rw [HN.out.2.2.2.2.2.2.1, List.length_map, List.length_map, HLen.out.1, HLen.out.2.1] at hfinal
                    rcases hfinal with ⟨x1, x2, x3⟩ | ⟨-, x1, x2, x3⟩
                    · exact .inl (HB1.out.1 ⟨x1, x2, x3⟩)
                    · exact .inr (HB2.out.1 ⟨x1, x2, x3⟩)
                  have HSn := Lib.hid (rsameN_any R5 R6 cr5 cr6 L5 L6 w16 (HN.out.1.below HB2.out.2) (HN.out.2.1.below HB2.out.2) (by rw [H5.out.1]; omega) (by rw [HN.out.2.2.2.2.2.2.2.1]; omega))
                  rw [decide_eq_true (HN.out.2.2.2.2.1.trans HN.out.2.2.2.2.2.1.symm), H5.out.1, HN.out.2.2.2.2.2.2.2.1] at HSn
                  have HO := Lib.hid hor
                  clear hor
                  go_wp2_with fail
                  refine HSn.out.mono ?_
                  rintro e w17 ⟨rfl, h17⟩
                  have H17 := Lib.hid (on1 HN.out.2.2.2.2.2.2.2.2.1 (on1 HB2.out.2 h17))
                  clear h17 HSn
                  rcases HO.out with rfl | rfl
                  · go_wp2_with fail
                    go_ret
                    exact ⟨rfl, H17.out⟩
                  · cases b1 with
                    | true =>
                      go_wp2_with fail
                      go_ret
                      exact ⟨rfl, H17.out⟩
                    | false =>
                      go_wp2_with fail
                      go_ret
                      exact ⟨rfl, H17.out⟩
            | false =>
              have HE := Lib.hid (And.intro r1 (And.intro r2 (And.intro r3 (And.intro r4 (r5.none hbd.symm)))))
              clear r1 r2 r3 r4 r5 r6 HR hbd
              go_wp2_with fail
              refine HHd.out.mono ?_
              rintro e w7 ⟨rfl, hw7⟩
              rw [hw7]
              clear hw7
              clear HHd
              obtain ⟨r1, r2, r3, r4, rS⟩ := HE.out
              obtain ⟨G, m1, m2, m3, m4, m5, m6⟩ := rS.last (kpt fk) (kpt gk) ft gt (a8 : Int)
              have f0 : Fx dk := r1.fi
              have b7 : Blk wr w.heap.size 25 #[.slice FA fn fc, .int .i64 ft] := by
                have := r1.memT r2.2.1
                rw [HT.out.1] at this
                exact this
              have C7 := fbsays b7
              simp only [cellsSay, Nat.reduceAdd, and_true] at C7
              have HC1 := Lib.hid (crash_any fk FA fc fn HL.out.2.2.2.2.2.1 ft r1 (fun W' hs => sep_keepK hs (Nat.le_refl _) HL.out.2.2.1) (by omega))
              obtain ⟨d1, hd1⟩ : ∃ d, d = crashD dk (kpt fk) ft := ⟨_, rfl⟩
              have f1 : Fx d1 := by rw [hd1]; exact fx_crash f0 _ _
              rw [← hd1] at HC1 m1 m2 m3 m4 m5
              obtain ⟨d2, hd2⟩ : ∃ d, d = haltD d1 (a8 : Int) := ⟨_, rfl⟩
              have f2 : Fx d2 := by rw [hd2]; exact fx_same f1 rfl rfl
              have l2 : d2.lf ≤ 1000000 := by rw [hd2]; show ((a8 : Int)).toNat ≤ _; omega
              rw [← hd2] at m1 m2 m3 m4 m5
              have f3 := bd_open f2 nJ
              obtain ⟨D3, hD3⟩ : ∃ d, d = topenD d2 nJ := ⟨_, rfl⟩
              rw [← hD3] at m1 m2 m3 m4 m5 f3
              obtain ⟨d4, hd4⟩ : ∃ d, d = crashD D3.2.2 (kpt gk) gt := ⟨_, rfl⟩
              have f4 : Fx d4 := by rw [hd4]; exact fx_crash f3.fx _ _
              have l4 : d4.lf ≤ 1000000 := by rw [hd4]; exact Nat.zero_le _
              rw [← hd4] at m1 m2 m3 m4
              have f5 := bd_open f4 nJ
              obtain ⟨D5, hD5⟩ : ∃ d, d = topenD d4 nJ := ⟨_, rfl⟩
              rw [← hD5] at m1 m2 m3 m4 f5
              obtain ⟨D6, hD6⟩ : ∃ d, d = topenD D5.2.2 nJ := ⟨_, rfl⟩
              rw [← hD6] at m3 m4
              have l5 : D5.2.2.lf ≤ 1000000 := Nat.le_trans f5.lf l4
              have HM := Lib.hid (And.intro m1 (And.intro m2 (And.intro m3 (And.intro m4 (And.intro m5 (And.intro m6 (And.intro hd2 (And.intro hD3 (And.intro hd4 (And.intro hD5 (And.intro hD6 (And.intro l2 (And.intro l4 (And.intro l5 (And.intro r2 (And.intro r3 r4))))))))))))))))
              clear m1 m2 m3 m4 m5 m6 hd1 hd2 hD3 hd4 hD5 hD6 f0 f1 f2 f3 f4 f5 l2 l4 l5 rS r1 r2 r3 r4 b7
              go_wp2_with fail
              refine HC1.out.mono ?_
              rintro e w8 ⟨rfl, h8⟩
              have HC2 := Lib.hid (halt_any (a8 : Int) h8)
              rw [← HM.out.2.2.2.2.2.2.1] at HC2
              clear h8 HC1 C7
              go_wp2_with fail
              refine HC2.out.mono ?_
              rintro e w9 ⟨rfl, h9⟩
              have HC3 := Lib.hid (topen_any nJ h9 (by decide) HM.out.2.2.2.2.2.2.2.2.2.2.2.1)
              rw [← HM.out.2.2.2.2.2.2.2.1] at HC3
              clear h9 HC2
              go_wp2_with fail
              refine HC3.out.mono ?_
              rintro e w10 (⟨h10, -⟩ | ⟨-, tp3, R3, k3, cr3, L3, rfl, -, -, h10⟩)
              · exact absurd HM.out.2.2.2.2.1 h10
              have b9 : Blk w10 (w.heap.size + 1) 25 #[.slice GA gn gc, .int .i64 gt] := by
                have := h10.memT (List.mem_cons_of_mem _ (List.mem_cons_of_mem _ HM.out.2.2.2.2.2.2.2.2.2.2.2.2.2.2.1.2.2))
                rw [HT.out.2] at this
                exact this
              have C9 := fbsays b9
              simp only [cellsSay, Nat.reduceAdd, and_true] at C9
              have HC4 := Lib.hid (crash_any gk GA gc gn HL.out.2.2.2.2.2.2 gt h10 (fun W' hs => sep_keepK hs (Nat.le_refl _) HL.out.2.2.2.1) (by omega))
              rw [← HM.out.2.2.2.2.2.2.2.2.1] at HC4
              clear h10 HC3 b9
              go_wp2_with fail
              refine HC4.out.mono ?_
              rintro e w11 ⟨rfl, h11⟩
              have HC5 := Lib.hid (topen_any nJ h11 (by decide) HM.out.2.2.2.2.2.2.2.2.2.2.2.2.1)
              rw [← HM.out.2.2.2.2.2.2.2.2.2.1] at HC5
              clear h11 HC4 C9
              go_wp2_with fail
              refine HC5.out.mono ?_
              rintro e w12 (⟨h12, -⟩ | ⟨-, tp5, R5, k5, cr5, L5, rfl, hk5, hL5, h12⟩)
              · exact absurd HM.out.1 h12
              have HC6 := Lib.hid (topen_any nJ h12 (by decide) HM.out.2.2.2.2.2.2.2.2.2.2.2.2.2.1)
              rw [← HM.out.2.2.2.2.2.2.2.2.2.2.1] at HC6
              have H5 := Lib.hid (And.intro hk5 hL5)
              clear h12 HC5 hk5 hL5
              go_wp2_with fail
              refine HC6.out.mono ?_
              rintro e w13 (⟨h13, -⟩ | ⟨-, tp6, R6, k6, cr6, L6, rfl, hk6, hL6, h13⟩)
              · exact absurd HM.out.2.2.1 h13
              have hb13 := h13.b
              have nG : Ns w13 R5 L5 := ns_of (show Gn w13 (.slice R5 k5 cr5) L5 from h13.get 2 rfl)
              have nO : Ns w13 R6 L6 := ns_of (show Gn w13 (.slice R6 k6 cr6) L6 from h13.get 0 rfl)
              obtain ⟨nA, nW⟩ := HM.out.2.2.2.2.2.2.2.2.2.2.2.2.2.2.2.1 w13 _ h13.tail.tail.tail.tail.tail.tail
              have e5 : L5.map Bx.b = G := H5.out.2.trans HM.out.2.1
              have e6 : L6.map Bx.b = G := hL6.trans HM.out.2.2.2.1
              have g5 : G.length = k5 := by rw [← e5, List.length_map]; exact H5.out.1
              have g6 : k6 = k5 := by rw [← g5, ← e6, List.length_map]; exact hk6.symm
              obtain ⟨la1, la2, la3, la4, la5, la6, la7, la8⟩ := HM.out.2.2.2.2.2.2.2.2.2.2.2.2.2.2.2.2
              have hlen5 : k5 ≤ 1000000 := by
                rcases HM.out.2.2.2.2.2.1 with ⟨-, x1, -⟩ | ⟨-, -, x1, -⟩
                · rw [List.length_map] at x1; omega
                · rw [List.length_map] at x1; omega
              have HN := Lib.hid (And.intro nG (And.intro nO (And.intro nA (And.intro nW (And.intro e5 (And.intro e6 (And.intro g5 (And.intro hk6 (And.intro hb13 HM.out.2.2.2.2.2.1)))))))))
              have HLen := Lib.hid (And.intro la1 (And.intro la2 (And.intro la3 (And.intro la4 (And.intro la5 la6)))))
              subst g6
              clear nG nO nA nW e5 e6 g5 hk6 hL6 hb13 h13 HC6 la1 la2 la3 la4 la5 la6 HM
              go_upto_region 44 with fail
              go_cut [28] from 160 to 181 (fun s28 wx => CutB (su ≤ k6 ∧ k6 ≤ an ∧ (La.map Bx.b).take k6 = G) s28 w13 wx)
              case first =>
                by_cases c1 : k6 ≤ an
                · have d1 : decide ((k6 : Int) ≤ (an : Int)) = true := decide_eq_true (by omega)
                  by_cases c2 : su ≤ k6
                  · have d2 : decide ((su : Int) ≤ (k6 : Int)) = true := decide_eq_true (by omega)
                    have hmin : min (k6 : Int) (an : Int) = (k6 : Int) := by omega
                    have hrun := run_frontM Aa an ac k6 (by have := HLen.out.2.2.1; omega) HLen.out.2.2.2.2.1 w13
                    have hll : (La.take k6).length = k6 := by rw [List.length_take, HLen.out.1]; omega
                    have HSn := Lib.hid (rsameN_any R5 Aa cr5 ac L5 (La.take k6) w13 HN.out.1 (HN.out.2.2.1.front k6) (by rw [H5.out.1]; omega) (by omega))
                    rw [hll, H5.out.1, List.map_take, HN.out.2.2.2.2.1] at HSn
                    obtain ⟨rb, hrb⟩ : ∃ rb, rb = decide (G = (La.map Bx.b).take k6) := ⟨_, rfl⟩
                    rw [← hrb] at HSn
                    have HRB := Lib.hid hrb
                    clear hll hrb
                    go_wp2_with fail
                    refine HSn.out.mono ?_
                    rintro e w14 ⟨rfl, h14⟩
                    have H14 := Lib.hid h14
                    clear h14 HSn hrun
                    go_wp2_with fail
                    go_meet
                    exact ⟨rb, rfl, fun h => by rw [HRB.out]; exact decide_eq_true h.2.2.symm, H14.out⟩
                  · have d2 : decide ((su : Int) ≤ (k6 : Int)) = false := decide_eq_false (by omega)
                    go_wp2_with fail
                    go_meet
                    exact ⟨false, rfl, fun h => absurd h.1 c2, Below.refl _ _⟩
                · have d1 : decide ((k6 : Int) ≤ (an : Int)) = false := decide_eq_false (by omega)
                  go_wp2_with fail
                  go_meet
                  exact ⟨false, rfl, fun h => absurd h.2.1 c1, Below.refl _ _⟩
              case rest =>
                obtain ⟨b1, rfl, hb1, hB1⟩ := hcut
                have HB1 := Lib.hid (And.intro hb1 hB1)
                clear hb1 hB1
                obtain ⟨w15, hw15⟩ : ∃ w15, w15 = wc := ⟨_, rfl⟩
                rw [← hw15] at HB1 ⊢
                clear hw15
                go_upto_region 45 with fail
                go_cut [29] from 182 to 203 (fun s29 wx => CutB (su ≤ k6 ∧ k6 ≤ an ∧ (La.map Bx.b).take k6 = G) s29 w15 wx)
                case first =>
                  by_cases c1 : k6 ≤ an
                  · have d1 : decide ((k6 : Int) ≤ (an : Int)) = true := decide_eq_true (by omega)
                    by_cases c2 : su ≤ k6
                    · have d2 : decide ((su : Int) ≤ (k6 : Int)) = true := decide_eq_true (by omega)
                      have hmin : min (k6 : Int) (an : Int) = (k6 : Int) := by omega
                      have hrun := run_frontM Aa an ac k6 (by have := HLen.out.2.2.1; omega) HLen.out.2.2.2.2.1 w15
                      have hll : (La.take k6).length = k6 := by rw [List.length_take, HLen.out.1]; omega
                      have HSn := Lib.hid (rsameN_any R5 Aa cr5 ac L5 (La.take k6) w15 (HN.out.1.below HB1.out.2) ((HN.out.2.2.1.below HB1.out.2).front k6) (by rw [H5.out.1]; omega) (by omega))
                      rw [hll, H5.out.1, List.map_take, HN.out.2.2.2.2.1] at HSn
                      obtain ⟨rb, hrb⟩ : ∃ rb, rb = decide (G = (La.map Bx.b).take k6) := ⟨_, rfl⟩
                      rw [← hrb] at HSn
                      have HRB := Lib.hid hrb
                      clear hll hrb
                      go_wp2_with fail
                      refine HSn.out.mono ?_
                      rintro e w14 ⟨rfl, h14⟩
                      have H14 := Lib.hid h14
                      clear h14 HSn hrun
                      go_wp2_with fail
                      go_meet
                      exact ⟨rb, rfl, fun h => by rw [HRB.out]; exact decide_eq_true h.2.2.symm, H14.out⟩
                    · have d2 : decide ((su : Int) ≤ (k6 : Int)) = false := decide_eq_false (by omega)
                      go_wp2_with fail
                      go_meet
                      exact ⟨false, rfl, fun h => absurd h.1 c2, Below.refl _ _⟩
                  · have d1 : decide ((k6 : Int) ≤ (an : Int)) = false := decide_eq_false (by omega)
                    go_wp2_with fail
                    go_meet
                    exact ⟨false, rfl, fun h => absurd h.2.1 c1, Below.refl _ _⟩
                case rest =>
                  obtain ⟨b2, rfl, hb2, hB2⟩ := hcut
                  have HB2 := Lib.hid (And.intro hb2 (on1 HB1.out.2 hB2))
                  clear hb2 hB2
                  obtain ⟨w16, hw16⟩ : ∃ w16, w16 = wc := ⟨_, rfl⟩
                  rw [← hw16] at HB2 ⊢
                  clear hw16
                  have hor : b1 = true ∨ b2 = true := by
                    have hfinal := HN.out.2.2.2.2.2.2.2.2.2
                    rw [HN.out.2.2.2.2.2.2.1, List.length_map, HLen.out.1] at hfinal
                    rcases hfinal with ⟨x1, x2, x3⟩ | ⟨-, x1, x2, x3⟩
                    · exact .inl (HB1.out.1 ⟨x1, x2, x3⟩)
                    · exact .inr (HB2.out.1 ⟨x1, x2, x3⟩)
                  have HSn := Lib.hid (rsameN_any R5 R6 cr5 cr6 L5 L6 w16 (HN.out.1.below HB2.out.2) (HN.out.2.1.below HB2.out.2) (by rw [H5.out.1]; omega) (by rw [HN.out.2.2.2.2.2.2.2.1]; omega))
                  rw [decide_eq_true (HN.out.2.2.2.2.1.trans HN.out.2.2.2.2.2.1.symm), H5.out.1, HN.out.2.2.2.2.2.2.2.1] at HSn
                  have HO := Lib.hid hor
                  clear hor
                  go_wp2_with fail
                  refine HSn.out.mono ?_
                  rintro e w17 ⟨rfl, h17⟩
                  have H17 := Lib.hid (on1 HN.out.2.2.2.2.2.2.2.2.1 (on1 HB2.out.2 h17))
                  clear h17 HSn
                  rcases HO.out with rfl | rfl
                  · go_wp2_with fail
                    go_ret
                    exact ⟨rfl, H17.out⟩
                  · cases b1 with
                    | true =>
                      go_wp2_with fail
                      go_ret
                      exact ⟨rfl, H17.out⟩
                    | false =>
                      go_wp2_with fail
                      go_ret
                      exact ⟨rfl, H17.out⟩

end Go.Proofs.Ytiogckgchlnldaa

