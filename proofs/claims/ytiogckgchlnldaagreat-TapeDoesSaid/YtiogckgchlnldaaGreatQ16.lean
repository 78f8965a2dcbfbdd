/- Joined: Fs11, Fs12, Fs13, Fs14, Fs15, Fs16, Fs17, Fs18, Fs19, Fs20, Fs21, Fs21b, Fs22, Fs25, Fs26. -/
import Derived.Test.YtiogckgchlnldaaGreatQ15
import Derived.Laws.EntriesVeiled
import Derived.Test.YtiogckgchlnldaaGreatQ14
import Derived.Test.YtiogckgchlnldaaGreatQ1
set_option linter.unusedSimpArgs false
set_option linter.unusedVariables false
/- Layer 8: forget. -/
set_option linter.unusedSimpArgs false
set_option linter.unusedVariables false
namespace Go.Proofs.YtiogckgchlnldaaGreat
open Go.RowKit Go.Maps Go.ChangeMaps Go.MapKept Go.WideMaps
set_option maxRecDepth 100000

theorem delF_nil (c : Nat) (q1 gf : Nat) (w : World) (hq : Blk w q1 61 #[.pointer (some ⟨gf, 0, none⟩)]) (h2 : isF w gf) :
    Calls Tryz.prog 73 #[.slice none 0 c, fgV q1] w fun e w' => e = .returned (.slice none 0 c) ∧ Below w.heap.size w w' := by
  have HC := Lib.hid (idxF_any none c 0 [] q1 gf w rfl (by omega) (fun i x hi => by simp at hi) hq (fun p hp => by simp at hp) h2)
  unfold fgV at HC ⊢
  clear hq h2
  go_enter Tryz.func73, Tryz.ntmps73
  go_wp2_with fail
  refine HC.out.mono ?_
  rintro e w1 ⟨b1, h1⟩
  have HB1 := Lib.hid b1
  clear b1 HC
  rcases h1 with ⟨rfl, -⟩ | ⟨i0, rfl, hi0, -⟩
  · go_wp2_with fail
    go_ret
    exact ⟨rfl, HB1.out⟩
  · omega

/-- whatever lies there -/
theorem delF_any (VW : Value) (L : List Pc) (q1 gf : Nat) (w : World) (hn : L.length ≤ 1000000) (hr : OwnR w 0 72 encPc 3 VW L) (hq : Blk w q1 61 #[.pointer (some ⟨gf, 0, none⟩)]) (h1 : ∀ p ∈ L, isF w p.g) (h2 : isF w gf) :
    Calls Tryz.prog 73 #[VW, fgV q1] w fun e w' => ∃ A n c, e = .returned (.slice A n c) ∧ Hid (OwnR w' 0 72 encPc 3 (.slice A n c) (L.filter fun p => !goneP gf p) ∧ Tou (fun k => VW.ownBlock = some k) w w' ∧ ∀ k, (Value.slice A n c).ownBlock = some k → VW.ownBlock = some k) := by
  rcases hr.2 with ⟨rfl, h0⟩ | ⟨P, c, cur, rfl, g1, g2, g3, g4⟩
  · obtain rfl := List.eq_nil_of_length_eq_zero h0
    refine (delF_nil 0 q1 gf w hq h2).mono ?_
    rintro e w1 ⟨rfl, b⟩
    exact ⟨none, 0, 0, rfl, Lib.hid ⟨OwnR.nil _ _ _ _ _, Tou.of_below b, fun k e => e⟩⟩
  · refine (delF_some P c L.length L q1 gf w rfl hn hr hq h1 h2).mono ?_
    rintro e w1 ⟨m, rfl, h⟩
    obtain ⟨a1, a2, a3⟩ := h.out
    exact ⟨_, _, _, rfl, Lib.hid ⟨a2, a3.mono (fun k _ e => by rw [e]; rfl), fun k e => e⟩⟩

set_option maxHeartbeats 4000000 in
theorem forget_any {B q room : Nat} {w0 w : World} {ts : List Kt} {d : Fd} {bm : Nat} {VW : Value} {T : List Ft} {L : List Pc} {M : List (Nm × Nat)}
    (hs : Sep B w0 w (thB q 67 (fsc room bm VW d) :: thM bm M :: thP VW L :: (T.map thF ++ ts))) (hn : L.length ≤ 1000000) {t : Ft} (ht : t ∈ T) (hL : ∀ p ∈ L, ∃ t' ∈ T, p.g = t'.g) :
    Calls Tryz.prog 63 #[.pointer (some ⟨q, 0, none⟩), .pointer (some ⟨t.g, 0, none⟩)] w fun e w' => e = .returned (.tuple #[]) ∧ ∃ VW', Sep B w0 w' (thB q 67 (fsc room bm VW' d) :: thM bm M :: thP VW' (L.filter fun p => !goneP t.g p) :: (T.map thF ++ ts)) := by
  obtain ⟨A, n, c, rfl⟩ : ∃ A n c, VW = .slice A n c := by
    have hr : OwnR w 0 72 encPc 3 VW L := hs.at_ 2 rfl
    rcases hr.2 with ⟨rfl, _⟩ | ⟨P, c, cur, rfl, _⟩
    · exact ⟨_, _, _, rfl⟩
    · exact ⟨_, _, _, rfl⟩
  have hfile : ∀ t ∈ T, isF w t.g := fun t ht => ⟨_, (hs.get (t := thF t) (by simp; exact .inr (.inr (.inr (.inl ⟨t, ht, rfl⟩))))).1⟩
  have hba := below_alloc w (.cells #[.pointer (some ⟨t.g, 0, none⟩)] 61)
  obtain ⟨W, hW⟩ : ∃ W, W = w.alloc (.cells #[.pointer (some ⟨t.g, 0, none⟩)] 61) := ⟨_, rfl⟩
  have hqb : Blk W w.heap.size 61 #[.pointer (some ⟨t.g, 0, none⟩)] := by rw [hW]; exact Blk.new _ _ _
  rw [← hW] at hba
  have hsW := hs.go hba
  have hr : OwnR W 0 72 encPc 3 (.slice A n c) L := hsW.at_ 2 rfl
  have HC := Lib.hid (delF_any (.slice A n c) L w.heap.size t.g W hn hr hqb (fun p hp => by
    obtain ⟨t', ht', e⟩ := hL p hp
    rw [e]
    exact (hfile t' ht').below hba) ((hfile t ht).below hba))
  have C := fbsays (hsW.blk 0)
  simp only [cellsSay, fsc, Nat.reduceAdd, and_true] at C
  have HS := Lib.hid hsW
  unfold fgV at HC
  clear hs hfile hba hqb hsW hr hn ht hL
  go_enter Tryz.func63, Tryz.ntmps63
  go_upto_region 1 with fail
  rw [← hW]
  clear hW
  go_wp2_with fail
  refine HC.out.mono ?_
  rintro e w2 ⟨A2, n2, c2, rfl, h2⟩
  obtain ⟨r2, t2, o2⟩ := h2.out
  have S2 := HS.out.call (t' := thP (.slice A2 n2 c2) (L.filter fun p => !goneP t.g p)) 2 rfl t2 r2 (fun k e => .inl (o2 k e))
  have C2 := fbsays (S2.blk 0)
  simp only [cellsSay, fsc, Nat.reduceAdd, and_true] at C2
  have HS2 := Lib.hid S2
  clear S2 r2 t2 o2 h2 HC C
  go_wp2_with fail
  generalize hW3 : World.setCell _ _ _ = w3
  have S3 := HS2.out.put 0 q [(2, .slice A2 n2 c2)] (fsc room bm (.slice A2 n2 c2) d) hW3
  go_end0
  exact ⟨rfl, _, S3⟩

end Go.Proofs.YtiogckgchlnldaaGreat

/- Layer 8: a file whose bytes are all durable; leave. -/
set_option linter.unusedSimpArgs false
set_option linter.unusedVariables false
namespace Go.Proofs.YtiogckgchlnldaaGreat
open Go.RowKit Go.Maps Go.ChangeMaps Go.MapKept Go.WideMaps
set_option maxRecDepth 100000

theorem mem_spans : ∀ {P : List (Nm × List UInt8)} {pos : Nm → Nat} {s : Nm × Nat × Nat}, s ∈ spans pos P → ∃ p ∈ P, p.1 = s.1
  | [], _, _, h => by simp [spans] at h
  | p :: ps, pos, s, h => by
    rw [spans_cons] at h
    rcases List.mem_cons.1 h with rfl | h
    · exact ⟨p, List.mem_cons_self, rfl⟩
    · obtain ⟨q, hq, e⟩ := mem_spans h
      exact ⟨q, List.mem_cons_of_mem _ hq, e⟩
section
variable {B q room bm : Nat} {w0 w w' : World} {ts : List Kt} {d : Fd} {VW : Value} {T : List Ft} {K1 K2 : Kt}
/-- files lie apart -/
theorem FsS.inj (hs : Sep B w0 w (thB q 67 (fsc room bm VW d) :: K1 :: K2 :: (T.map thF ++ ts))) {t u : Ft} (ht : t ∈ T) (hu : u ∈ T) (e : t.g = u.g) : t = u := by
  obtain ⟨i, hi⟩ := List.getElem?_of_mem ht
  obtain ⟨j, hj⟩ := List.getElem?_of_mem hu
  by_cases hij : i = j
  · subst hij
    rw [hi] at hj
    injection hj
  · have k : ∀ (i : Nat) (t : Ft), T[i]? = some t → (thB q 67 (fsc room bm VW d) :: K1 :: K2 :: (T.map thF ++ ts))[i + 3]? = some (thF t) := fun i t h => by
      show (T.map thF ++ ts)[i]? = _
      rw [List.getElem?_append_left (by rw [List.length_map]; exact (List.getElem?_eq_some_iff.1 h).1), List.getElem?_map, h]
      rfl
    exact absurd (.inl e) (hs.apart (k i t hi) (k j u hj) (by omega) t.g (.inl rfl))
end
/-- pieces that go with a file -/
theorem pcL_drop {d : Fd} {T : List Ft} (h : Fi d T) (hin : ∀ t ∈ T, ∀ u ∈ T, t.g = u.g → t = u) {t : Ft} (ht : t ∈ T) : pcL T (dropN t.nm d.P) = (pcL T d.P).filter fun p => !goneP t.g p := by
  unfold pcL
  rw [spans_drop, List.filter_map]
  congr 1
  apply List.filter_congr
  intro s hs
  obtain ⟨p, hp, e⟩ := mem_spans hs
  obtain ⟨u, hu, hun⟩ := h.pn p hp
  have hgu : gT T s.1 = u.g := by
    have := gT_find (find_name h.names hu)
    rw [← e, ← hun]
    exact this
  show (!(s.1 == t.nm)) = !goneP t.g ⟨gT T s.1, s.2.1, s.2.2⟩
  congr 1
  unfold goneP
  rw [hgu]
  by_cases hst : s.1 = t.nm
  · have : u = t := by
      have h1 := find_name h.names hu
      have h2 := find_name h.names ht
      rw [hun, e, hst, h2] at h1
      injection h1 with h1
      exact h1.symm
    subst this
    rw [beq_iff_eq.2 hst, decide_eq_true rfl]
  · have : u.g ≠ t.g := fun x => hst (by rw [← e, ← hun, hin u hu t ht x])
    rw [beq_eq_false_iff_ne.2 hst, decide_eq_false this]
theorem pcL_setd {d : Fd} {T : List Ft} (h : Fi d T) (hin : ∀ t ∈ T, ∀ u ∈ T, t.g = u.g → t = u) {t t' : Ft} {i : Nat} (hi : T[i]? = some t) (hn : t'.nm = t.nm) : pcL (T.set i t') (dropN t.nm d.P) = (pcL T d.P).filter fun p => !goneP t.g p := by
  rw [← pcL_drop h hin (List.mem_of_getElem? hi)]
  refine pcL_congr (fun p hp => ?_)
  have : p.1 ≠ t.nm := by
    have := (List.mem_filter.1 hp).2
    simpa using this
  rw [find_set hi hn h.names, if_neg this]
/-- all bytes that a file has are durable -/
theorem Fi.setd {d : Fd} {T : List Ft} (h : Fi d T) {t t' : Ft} {i : Nat} (hi : T[i]? = some t) (hn : t'.nm = t.nm) (hs : t'.su = t'.b.length) (hb : t'.b.length ≤ t.b.length) : Fi { d with F := setF t.nm t'.b d.F, P := dropN t.nm d.P } (T.set i t') := by
  have hm := List.mem_of_getElem? hi
  have hil := (List.getElem?_eq_some_iff.1 hi).1
  have htk : t'.b.take t'.su = t'.b := by rw [hs, List.take_length]
  have hdis : ∀ j (hj : j < T.length), i ≠ j → T[j].nm ≠ t.nm := fun j hj e => by
    have hp := List.pairwise_iff_getElem.1 h.names
    obtain ⟨_, hte⟩ := List.getElem?_eq_some_iff.1 hi
    rcases Nat.lt_or_gt_of_ne e with h9 | h9
    · have := hp i j hil hj h9; rw [hte] at this; exact fun x => this x.symm
    · have := hp j i hj hil h9; rw [hte] at this; exact this
  have hF : (T.set i t').map (fun t => (t.nm, t.b.take t.su)) = setF t.nm t'.b d.F := by
    rw [← h.F]
    unfold setF
    rw [List.map_map]
    apply List.ext_getElem (by simp)
    intro j h1 h2
    have hj : j < T.length := by simpa using h1
    rw [List.getElem_map, List.getElem_set, List.getElem_map]
    show _ = if T[j].nm == t.nm then (t.nm, t'.b) else (T[j].nm, T[j].b.take T[j].su)
    split
    · rename_i e
      subst e
      obtain ⟨_, hte⟩ := List.getElem?_eq_some_iff.1 hi
      rw [htk, hn, hte, if_pos (beq_self_eq_true _)]
    · rename_i e
      rw [if_neg (by simpa using hdis j hj e)]
  have hok : ∀ x ∈ T.set i t', x.su ≤ x.b.length ∧ x.b = x.b.take x.su ++ pcs (dropN t.nm d.P) x.nm ∧ x.nm.length ≤ 16 := fun x hx => by
    obtain ⟨j, hj, rfl⟩ := List.getElem_of_mem hx
    rw [List.length_set] at hj
    rw [List.getElem_set]
    split
    · rename_i e
      rw [htk, hn, pcs_drop_same, List.append_nil, hs]
      exact ⟨Nat.le_refl _, rfl, (h.ok t hm).2.2⟩
    · rename_i e
      rw [pcs_drop_ne (hdis j hj e)]
      exact h.ok T[j] (List.getElem_mem hj)
  refine ⟨hF, h.up.set _ _, hok, fun p hp => ?_, ?_, ?_, ?_⟩
  · have hp' := List.mem_filter.1 hp
    have hpn : p.1 ≠ t.nm := by simpa using hp'.2
    obtain ⟨y, hy, e⟩ := h.pn p hp'.1
    obtain ⟨j, hj⟩ := List.getElem?_of_mem hy
    refine ⟨y, List.mem_of_getElem? (i := j) ?_, e⟩
    rw [List.getElem?_set_ne (fun x => hpn (by subst x; rw [hi] at hj; injection hj with hj; rw [← e, hj]))]
    exact hj
  · exact Nat.le_trans (List.length_filter_le _ _) h.pl
  · rw [used_T (d := { d with F := setF t.nm t'.b d.F, P := dropN t.nm d.P }) hF (fun x hx => (hok x hx).2.1)]
    have e2 := sum_set (t' := t') hi
    have := h.us
    rw [h.used] at this
    omega
  · rw [List.length_set]; exact h.fl

theorem leave_end {B : Nat} {w0 w w1 : World} {ts : List Kt} {nm : Nm} {b : List UInt8} {su g c k i : Nat} {A : Option Addr} (hs : Sep B w0 w ts) (hi : ts[i]? = some (thF ⟨nm, b, su, g, A, c⟩)) (hk : k ≤ b.length) (hW : sets w g [(0, .slice A k k), (1, .int .i64 (k : Nat))] = w1) :
    Sep B w0 w1 (ts.set i (thF ⟨nm, b.take k, k, g, A, k⟩)) := by
  obtain ⟨f1, f2, f3⟩ := hs.at_ i hi
  have hl : (b.take k).length = k := by rw [List.length_take]; omega
  have hv : (⟨nm, b.take k, k, g, A, k⟩ : Ft).v = .slice A k k := by unfold Ft.v; rw [hl]
  have ht : Tou (fun x => x = g) w w1 := by
    rw [← hW]
    exact (Tou.set g 0 _ rfl : Tou (fun x => x = g) w _).trans (Tou.set (F := fun x => x = g) g 1 _ rfl) (fun _ _ h => h)
  have hob : (Value.slice A k k).ownBlock = (Ft.v ⟨nm, b, su, g, A, c⟩).ownBlock := by
    unfold Ft.v
    cases A <;> rfl
  refine hs.call i hi (ht.mono (fun x _ e => .inl e)) ?_ (fun x hx => ?_)
  · refine ⟨?_, ?_, ?_⟩
    · have := Blk.sets [(0, .slice A k k), (1, .int .i64 (k : Nat))] f1
      rw [hW] at this
      have e : (⟨nm, b.take k, k, g, A, k⟩ : Ft).cs = (setsL (Ft.cs ⟨nm, b, su, g, A, c⟩).toList [(0, .slice A k k), (1, .int .i64 (k : Nat))]).toArray := by
        unfold Ft.cs
        rw [hv]
        rfl
      rw [e]
      exact this
    · rw [hv]
      exact (OwnF.front f2 k hk).kept ht (fun x hx e => by subst e; rw [hob] at hx; exact f3 hx)
    · rw [hv, hob]
      exact f3
  · rcases hx with hx | hx
    · exact .inl (.inl hx)
    · rw [hv, hob] at hx
      exact .inl (.inr hx)

set_option maxHeartbeats 2000000 in
/-- leave: a file's first bytes alone -/
theorem leave_exact {B : Nat} {w0 w : World} {ts : List Kt} {t : Ft} {i : Nat} (hs : Sep B w0 w ts) (hi : ts[i]? = some (thF t)) (k : Nat) (hk : k ≤ t.b.length) (hb : t.b.length ≤ 200000) :
    Calls Tryz.prog 59 #[.pointer (some ⟨t.g, 0, none⟩), .int .i64 (k : Nat)] w fun e w' => e = .returned (.tuple #[]) ∧ Sep B w0 w' (ts.set i (thF ⟨t.nm, t.b.take k, k, t.g, t.A, k⟩)) ∧ Tou (fun x => x = t.g) w w' := by
  obtain ⟨f1, f2, f3⟩ := hs.at_ i hi
  obtain ⟨nm, b, su, g, A, c⟩ := t
  have f2 : OwnF w (.slice A b.length c) b := f2
  have f3 : (Value.slice A b.length c).ownBlock ≠ some g := f3
  have f1 : Blk w g 69 #[.slice A b.length c, .int .i64 (su : Nat)] := f1
  have hk : k ≤ b.length := hk
  have hb : b.length ≤ 200000 := hb
  show Calls Tryz.prog _ #[.pointer (some ⟨g, 0, none⟩), .int .i64 (k : Nat)] w _
  have C := fbsays f1
  simp only [cellsSay, Nat.reduceAdd, and_true] at C
  have hbc : b.length ≤ c ∧ c ≤ maxLen := by
    rcases f2 with ⟨hv, rfl⟩ | ⟨g', c', cur, hv, h1, h2, h3, h4, h5, h6⟩
    · injection hv with e1 e2 e3
      rw [e3]; exact ⟨by simp, by unfold maxLen; omega⟩
    · injection hv with e1 e2 e3
      omega
  obtain ⟨nb, hnb⟩ : ∃ nb, nb = b.length := ⟨_, rfl⟩
  obtain ⟨hbc1, hbc2⟩ := hbc
  rw [← hnb] at C hk hb hbc1
  have H := Lib.hid (And.intro hs (And.intro hi (And.intro f1 (And.intro f2 (And.intro f3 hnb)))))
  have hk0 : (0 : Int) ≤ (k : Int) := by omega
  have hkn : (k : Int) ≤ (nb : Int) := by omega
  have hkc : (k : Int) ≤ (c : Int) := by omega
  have hkl : b.length = nb := hnb.symm
  clear hs hi f1 f2 f3 hnb hkl
  cases A with
  | some ad =>
    go_enter Tryz.func59, Tryz.ntmps59
    go_wp2_with fail
    generalize hW : World.setCell _ _ _ = w1
    go_end0
    obtain ⟨hs, hi, f1, f2, f3, hnb⟩ := H.out
    exact ⟨rfl, leave_end hs hi (by omega) hW, by rw [← hW]; exact (Tou.set (F := fun x => x = g) g 0 _ rfl).trans (Tou.set (F := fun x => x = g) g 1 _ rfl) (fun _ _ h => h)⟩
  | none =>
    have h0 : nb = 0 ∧ k = 0 ∧ c = 0 := by
      rcases H.out.2.2.2.1 with ⟨hv, e⟩ | ⟨g', c', cur, hv, h1, h2, h3, h4, h5, h6⟩
      · injection hv with e1 e2 e3
        have h9 := H.out.2.2.2.2.2
        rw [e] at h9
        have h9 : nb = 0 := h9
        exact ⟨h9, by omega, e3⟩
      · injection hv with e1 e2 e3
        cases e1
    obtain ⟨rfl, rfl, rfl⟩ := h0
    go_enter Tryz.func59, Tryz.ntmps59
    go_wp2_with fail
    generalize hW : World.setCell _ _ _ = w1
    go_end0
    obtain ⟨hs, hi, f1, f2, f3, hnb⟩ := H.out
    exact ⟨rfl, leave_end hs hi (by omega) hW, by rw [← hW]; exact (Tou.set (F := fun x => x = g) g 0 _ rfl).trans (Tou.set (F := fun x => x = g) g 1 _ rfl) (fun _ _ h => h)⟩

theorem leave_any {B : Nat} {w0 w : World} {ts : List Kt} {t : Ft} {i : Nat} (hs : Sep B w0 w ts) (hi : ts[i]? = some (thF t)) (k : Nat) (hk : k ≤ t.b.length) (hb : t.b.length ≤ 200000) :
    Calls Tryz.prog 59 #[.pointer (some ⟨t.g, 0, none⟩), .int .i64 (k : Nat)] w fun e w' => e = .returned (.tuple #[]) ∧ ∃ c, Sep B w0 w' (ts.set i (thF ⟨t.nm, t.b.take k, k, t.g, t.A, c⟩)) :=
  (leave_exact hs hi k hk hb).mono fun e w' h => ⟨h.1, k, h.2.1⟩

end Go.Proofs.YtiogckgchlnldaaGreat

/- Layer 8: Sync. -/
set_option linter.unusedSimpArgs false
set_option linter.unusedVariables false
namespace Go.Proofs.YtiogckgchlnldaaGreat
open Go.RowKit Go.Maps Go.ChangeMaps Go.MapKept Go.WideMaps
set_option maxRecDepth 100000

theorem pcL_mem {d : Fd} {T : List Ft} (h : Fi d T) {p : Pc} (hp : p ∈ pcL T d.P) : ∃ u ∈ T, p.g = u.g := by
  unfold pcL at hp
  obtain ⟨s, hs, rfl⟩ := List.mem_map.1 hp
  obtain ⟨q, hq, e⟩ := mem_spans hs
  obtain ⟨u, hu, hun⟩ := h.pn q hq
  refine ⟨u, hu, ?_⟩
  have := gT_find (find_name h.names hu)
  rw [← e, ← hun]
  exact this
theorem pcL_len (T : List Ft) (P : List (Nm × List UInt8)) : (pcL T P).length = P.length := by unfold pcL; rw [List.length_map, spans_len]
theorem mem_set_g {T : List Ft} {i : Nat} {t t' : Ft} (hi : T[i]? = some t) (hg : t'.g = t.g) {u : Ft} (hu : u ∈ T) : ∃ x ∈ T.set i t', u.g = x.g := by
  obtain ⟨j, hj⟩ := List.getElem?_of_mem hu
  by_cases hij : i = j
  · subst hij
    rw [hi] at hj
    injection hj with hj
    exact ⟨t', List.mem_of_getElem? (List.getElem?_set_self (List.getElem?_eq_some_iff.1 hi).1), by rw [← hj, hg]⟩
  · exact ⟨u, List.mem_of_getElem? (i := j) (by rw [List.getElem?_set_ne hij]; exact hj), rfl⟩
theorem runs_keeps (d : Fd) : (runsD d).2.F = d.F ∧ (runsD d).2.P = d.P := by unfold runsD; split <;> (try split) <;> exact ⟨rfl, rfl⟩
/-- the state behind a change of one file, when its pieces are forgotten -/
theorem FsI.forgot {B q room bm : Nat} {w0 w : World} {ts : List Kt} {d : Fd} {VW : Value} {T : List Ft} {t t' : Ft} {i : Nat} (hF : Fi d T) (hin : ∀ t ∈ T, ∀ u ∈ T, t.g = u.g → t = u) (hi : T[i]? = some t) (hn : t'.nm = t.nm) (hs : t'.su = t'.b.length) (hb : t'.b.length ≤ t.b.length)
    (S : Sep B w0 w (thB q 67 (fsc room bm VW d) :: thM bm (nmG (T.set i t')) :: thP VW ((pcL T d.P).filter fun p => !goneP t.g p) :: ((T.set i t').map thF ++ ts))) :
    FsI B w0 w q room ts { d with F := setF t.nm t'.b d.F, P := dropN t.nm d.P } :=
  ⟨bm, VW, T.set i t', by rw [← pcL_setd hF hin hi hn] at S; exact S, hF.setd hi hn hs hb⟩

set_option maxHeartbeats 4000000 in
theorem sync_any {B q room : Nat} {w0 w : World} {ts : List Kt} {d : Fd} (n : Nm) (hn : n.length ≤ maxLen) (h : FsI B w0 w q room ts d) (hl : d.lf ≤ 1000000) :
    Calls Tryz.prog 55 #[.pointer (some ⟨q, 0, none⟩), .string ⟨n.toArray⟩] w fun e w' => e = .returned (.int .u16 ((syncD d n).1 : Nat)) ∧ FsI B w0 w' q room ts (syncD d n).2 := by
  have h0 := h
  obtain ⟨bm, VW, T, hs, hF⟩ := h
  have C := fbsays (FsS.bx hs)
  simp only [cellsSay, fsc, Nat.reduceAdd, and_true] at C
  have look := (FsS.map hs).look n hn
  rw [findM_T] at look
  cases hat : atF d.F n with
  | none =>
    rw [hF.gone hat] at look
    simp only [Option.map_none, ptrV] at look
    have HE := Lib.hid (show syncD d n = (80, d) by unfold syncD rdD; rw [hat]; rfl)
    have H0 := Lib.hid h0
    clear hs hF hat h0
    go_enter Tryz.func55, Tryz.ntmps55
    go_wp2_with fail
    go_ret
    rw [HE.out]
    exact ⟨rfl, H0.out⟩
  | some x =>
    obtain ⟨i, t, hi, hf, htn, -⟩ := hF.there hat
    rw [hf] at look
    simp only [Option.map_some, ptrV] at look
    obtain ⟨g, hg⟩ : ∃ g, g = t.g := ⟨_, rfl⟩
    rw [← hg] at look
    have HR := Lib.hid (runs_S hs hl)
    have hk := runs_keeps d
    have he : syncD d n = (0, if (runsD d).1 = true then { (runsD d).2 with F := setF n t.b (runsD d).2.F, P := dropN n (runsD d).2.P } else (runsD d).2) := by
      unfold syncD
      rw [hF.rd hf]
    obtain ⟨r, hr⟩ : ∃ r, r = runsD d := ⟨_, rfl⟩
    rw [← hr] at HR hk he
    clear hr
    obtain ⟨rb, rd⟩ := r
    have HR : Hid (Calls Tryz.prog 20 #[.pointer (some ⟨q, 0, none⟩)] w fun e w' => e = .returned (.bool rb) ∧ FsS B w0 w' q room ts rd bm VW T) := HR
    have HE : Hid (syncD d n = (0, if rb = true then { rd with F := setF n t.b rd.F, P := dropN n rd.P } else rd)) := Lib.hid he
    have hF1 := hF.same (d' := rd) hk.1 hk.2
    have HT := Lib.hid (And.intro hF1 (And.intro hi (And.intro htn hg)))
    clear hs hF hat h0 hi hf htn hg hk he hF1
    go_enter Tryz.func55, Tryz.ntmps55
    go_wp2_with fail
    refine HR.out.mono ?_
    rintro e w1 ⟨rfl, h1⟩
    clear HR
    cases rb with
    | false =>
      have H1 := Lib.hid h1
      clear h1
      go_wp2_with fail
      go_ret
      rw [HE.out]
      exact ⟨rfl, bm, VW, T, H1.out, HT.out.1⟩
    | true =>
      obtain ⟨hF1, hi, htn, hg⟩ := HT.out
      have htm := List.mem_of_getElem? hi
      have hil := (List.getElem?_eq_some_iff.1 hi).1
      obtain ⟨f1, f2, f3⟩ := FsS.file h1 htm
      have hin : ∀ t ∈ T, ∀ u ∈ T, t.g = u.g → t = u := fun t ht u hu e => FsS.inj h1 ht hu e
      have Cf := fbsays f1
      simp only [cellsSay, Ft.cs, Ft.v, Nat.reduceAdd, and_true] at Cf
      rw [← hg] at Cf
      obtain ⟨nt, hnt⟩ : ∃ nt, nt = t.b.length := ⟨_, rfl⟩
      have hblen := hF1.blen htm
      rw [← hnt] at Cf hblen
      obtain ⟨t', ht'⟩ : ∃ t' : Ft, t' = ⟨t.nm, t.b, nt, t.g, t.A, t.c⟩ := ⟨_, rfl⟩
      obtain ⟨w2, hW2⟩ : ∃ w2, w2 = w1.setCell ⟨g, 1, none⟩ (.int .i64 (nt : Nat)) := ⟨_, rfl⟩
      have hv' : t'.v = t.v := by rw [ht']; rfl
      have tt : Tou (fun k => k = t.g) w1 w2 := by rw [hW2, hg]; exact Tou.set (F := fun k => k = t.g) t.g 1 _ rfl
      have p2 : (thF t').P w2 := by
        refine ⟨?_, ?_, ?_⟩
        · have := Blk.sets [(1, .int .i64 (nt : Nat))] f1
          have e : t'.cs = (setsL t.cs.toList [(1, .int .i64 (nt : Nat))]).toArray := by rw [ht']; rfl
          rw [e, show t'.g = t.g by rw [ht'], hW2, hg]
          exact this
        · rw [hv', show t'.b = t.b by rw [ht']]
          exact f2.kept tt (fun k hk e => by subst e; exact f3 hk)
        · rw [hv', show t'.g = t.g by rw [ht']]; exact f3
      have S2 := FsS.app (w6 := w1) (w7 := w1) (VW2 := VW) h1 hi (t' := t') (by rw [ht']) (by rw [ht']) (tt.mono (fun k _ e => .inl e)) p2 (fun k hk => by
        rcases hk with hk | hk
        · left; left; rw [hk, ht']
        · rw [hv'] at hk; exact .inl (.inr hk))
      have htm' : t' ∈ T.set i t' := List.mem_of_getElem? (List.getElem?_set_self hil)
      have HC := Lib.hid (forget_any S2 (by rw [pcL_len]; exact hF1.pl) htm' (fun p hp => by
        obtain ⟨u, hu, e⟩ := pcL_mem hF1 hp
        obtain ⟨x, hx, e2⟩ := mem_set_g hi (t' := t') (by rw [ht']) hu
        exact ⟨x, hx, e.trans e2⟩))
      rw [show t'.g = g by rw [ht', hg]] at HC
      have HF := Lib.hid (fun (w3 : World) (VW' : Value) (S3 : Sep B w0 w3 (thB q 67 (fsc room bm VW' rd) :: thM bm (nmG (T.set i t')) :: thP VW' ((pcL T rd.P).filter fun p => !goneP g p) :: ((T.set i t').map thF ++ ts))) => FsI.forgot hF1 hin hi (t' := t') (by rw [ht']) (by rw [ht', hnt]) (by rw [ht']; exact Nat.le_refl _) (by rw [hg] at S3; exact S3))
      rw [show t'.b = t.b by rw [ht'], htn] at HF
      clear hF1 hi htn hg htm hil f1 f2 f3 hin hnt ht' hv' tt p2 S2 htm' h1
      go_upto_region 6 with fail
      rw [← hW2]
      clear hW2
      go_wp2_with fail
      refine HC.out.mono ?_
      rintro e w3 ⟨rfl, VW', S3⟩
      have H3 := Lib.hid (HF.out w3 VW' S3)
      clear S3 HC HF
      go_wp2_with fail
      go_ret
      rw [HE.out]
      exact ⟨rfl, H3.out⟩

end Go.Proofs.YtiogckgchlnldaaGreat

/- Layer 8: Cut. -/
set_option linter.unusedSimpArgs false
set_option linter.unusedVariables false
namespace Go.Proofs.YtiogckgchlnldaaGreat
open Go.RowKit Go.Maps Go.ChangeMaps Go.MapKept Go.WideMaps
set_option maxRecDepth 100000

theorem getT {K0 K1 K2 : Kt} {T : List Ft} {ts : List Kt} {i : Nat} {t : Ft} (hi : T[i]? = some t) : (K0 :: K1 :: K2 :: (T.map thF ++ ts))[i + 3]? = some (thF t) := by
  show (T.map thF ++ ts)[i]? = _
  rw [List.getElem?_append_left (by rw [List.length_map]; exact (List.getElem?_eq_some_iff.1 hi).1), List.getElem?_map, hi]
  rfl
theorem setT {K0 K1 K2 : Kt} {T : List Ft} {ts : List Kt} {i : Nat} {t t' : Ft} (hi : T[i]? = some t) : (K0 :: K1 :: K2 :: (T.map thF ++ ts)).set (i + 3) (thF t') = K0 :: K1 :: K2 :: ((T.set i t').map thF ++ ts) := by
  show _ :: _ :: _ :: (T.map thF ++ ts).set i (thF t') = _
  rw [List.set_append_left _ _ (by rw [List.length_map]; exact (List.getElem?_eq_some_iff.1 hi).1), List.map_set]

set_option maxHeartbeats 4000000 in
theorem cut_any {B q room : Nat} {w0 w : World} {ts : List Kt} {d : Fd} (n : Nm) (k : Int) (hn : n.length ≤ maxLen) (h : FsI B w0 w q room ts d) (hl : d.lf ≤ 1000000) :
    Calls Tryz.prog 46 #[.pointer (some ⟨q, 0, none⟩), .string ⟨n.toArray⟩, .int .i64 k] w fun e w' => e = .returned (.int .u16 ((cutD d n k).1 : Nat)) ∧ FsI B w0 w' q room ts (cutD d n k).2 := by
  have h0 := h
  obtain ⟨bm, VW, T, hs, hF⟩ := h
  have C := fbsays (FsS.bx hs)
  simp only [cellsSay, fsc, Nat.reduceAdd, and_true] at C
  have look := (FsS.map hs).look n hn
  rw [findM_T] at look
  cases hat : atF d.F n with
  | none =>
    rw [hF.gone hat] at look
    simp only [Option.map_none, ptrV] at look
    have HE := Lib.hid (show cutD d n k = (80, d) by unfold cutD rdD; rw [hat]; rfl)
    have H0 := Lib.hid h0
    clear hs hF hat h0
    go_enter Tryz.func46, Tryz.ntmps46
    go_wp2_with fail
    go_ret
    rw [HE.out]
    exact ⟨rfl, H0.out⟩
  | some x =>
    obtain ⟨i, t, hi, hf, htn, -⟩ := hF.there hat
    rw [hf] at look
    simp only [Option.map_some, ptrV] at look
    obtain ⟨g, hg⟩ : ∃ g, g = t.g := ⟨_, rfl⟩
    rw [← hg] at look
    have htm := List.mem_of_getElem? hi
    obtain ⟨f1, f2, f3⟩ := FsS.file hs htm
    have Cf := fbsays f1
    simp only [cellsSay, Ft.cs, Ft.v, Nat.reduceAdd, and_true] at Cf
    rw [← hg] at Cf
    obtain ⟨nt, hnt⟩ : ∃ nt, nt = t.b.length := ⟨_, rfl⟩
    have hblen := hF.blen htm
    rw [← hnt] at Cf hblen
    by_cases hbad : k < 0 ∨ (nt : Int) < k
    · have HE := Lib.hid (show cutD d n k = (1, d) by unfold cutD; rw [hF.rd hf]; show (if _ then _ else _) = _; rw [if_pos (by rw [← hnt]; exact hbad)])
      have H0 := Lib.hid h0
      clear hs hF hat h0 hi hf htn hg htm f1 f2 f3 hnt
      by_cases hk0 : k < 0
      · have d0 : decide (k < 0) = true := decide_eq_true hk0
        clear hbad
        go_enter Tryz.func46, Tryz.ntmps46
        go_wp2_with fail
        go_ret
        rw [HE.out]
        exact ⟨rfl, H0.out⟩
      · have d0 : decide (k < 0) = false := decide_eq_false hk0
        have hk1 : (nt : Int) < k := by omega
        have d1 : decide ((nt : Int) < k) = true := decide_eq_true hk1
        clear hbad
        go_enter Tryz.func46, Tryz.ntmps46
        go_wp2_with fail
        go_ret
        rw [HE.out]
        exact ⟨rfl, H0.out⟩
    · obtain ⟨m, hm⟩ : ∃ m : Nat, k = (m : Int) := ⟨k.toNat, by omega⟩
      subst hm
      have HR := Lib.hid (runs_S hs hl)
      have hk := runs_keeps d
      have he : cutD d n (m : Int) = (0, if (runsD d).1 = true then { (runsD d).2 with F := setF n (t.b.take m) (runsD d).2.F, P := dropN n (runsD d).2.P } else (runsD d).2) := by
        unfold cutD
        rw [hF.rd hf]
        show (if _ then _ else _) = _
        rw [if_neg (by rw [← hnt]; exact hbad)]
        rfl
      obtain ⟨r, hr⟩ : ∃ r, r = runsD d := ⟨_, rfl⟩
      rw [← hr] at HR hk he
      clear hr
      obtain ⟨rb, rd⟩ := r
      have HR : Hid (Calls Tryz.prog 20 #[.pointer (some ⟨q, 0, none⟩)] w fun e w' => e = .returned (.bool rb) ∧ FsS B w0 w' q room ts rd bm VW T) := HR
      have HE : Hid (cutD d n (m : Int) = (0, if rb = true then { rd with F := setF n (t.b.take m) rd.F, P := dropN n rd.P } else rd)) := Lib.hid he
      have hF1 := hF.same (d' := rd) hk.1 hk.2
      have hm0 : ¬ ((m : Int) < 0) := by omega
      have hm1 : ¬ ((nt : Int) < (m : Int)) := by omega
      have d0 : decide ((m : Int) < 0) = false := decide_eq_false hm0
      have d1 : decide ((nt : Int) < (m : Int)) = false := decide_eq_false hm1
      have HT := Lib.hid (And.intro hF1 (And.intro hi (And.intro htn (And.intro hg (And.intro hnt (show m ≤ nt by omega))))))
      clear hs hF hat h0 hi hf htn hg hk he hF1 htm f1 f2 f3 hnt hbad
      go_enter Tryz.func46, Tryz.ntmps46
      go_wp2_with fail
      refine HR.out.mono ?_
      rintro e w1 ⟨rfl, h1⟩
      clear HR
      cases rb with
      | false =>
        have H1 := Lib.hid h1
        clear h1
        go_wp2_with fail
        go_ret
        rw [HE.out]
        exact ⟨rfl, bm, VW, T, H1.out, HT.out.1⟩
      | true =>
        obtain ⟨hF1, hi, htn, hg, hnt, hmn⟩ := HT.out
        have htm := List.mem_of_getElem? hi
        have hil := (List.getElem?_eq_some_iff.1 hi).1
        have hin : ∀ t ∈ T, ∀ u ∈ T, t.g = u.g → t = u := fun t ht u hu e => FsS.inj h1 ht hu e
        have HV := Lib.hid (leave_any (B := B) (w0 := w0) h1 (getT hi) m (by rw [← hnt]; exact hmn) (hF1.blen htm))
        rw [← hg] at HV
        have HF := Lib.hid (fun (w2 : World) (c2 : Nat) S2 => (show _ ∧ _ from ⟨forget_any (B := B) (w0 := w0) (w := w2) (q := q) (room := room) (ts := ts) (d := rd) (bm := bm) (VW := VW) (T := T.set i ⟨t.nm, t.b.take m, m, g, t.A, c2⟩) (L := pcL T rd.P) (M := nmG T) S2 (by rw [pcL_len]; exact hF1.pl) (List.mem_of_getElem? (List.getElem?_set_self hil)) (fun p hp => by
          obtain ⟨u, hu, e⟩ := pcL_mem hF1 hp
          obtain ⟨x, hx, e2⟩ := mem_set_g hi (t' := ⟨t.nm, t.b.take m, m, g, t.A, c2⟩) hg hu
          exact ⟨x, hx, e.trans e2⟩), fun (w3 : World) (VW' : Value) (S3 : Sep B w0 w3 (thB q 67 (fsc room bm VW' rd) :: thM bm (nmG T) :: thP VW' ((pcL T rd.P).filter fun p => !goneP g p) :: ((T.set i ⟨t.nm, t.b.take m, m, g, t.A, c2⟩).map thF ++ ts))) => show FsI B w0 w3 q room ts { rd with F := setF n (t.b.take m) rd.F, P := dropN n rd.P } from by
            subst hg
            have e9 := nmG_set hi (t' := ⟨t.nm, t.b.take m, m, t.g, t.A, c2⟩) rfl rfl
            rw [← e9] at S3
            have := FsI.forgot hF1 hin hi (t' := ⟨t.nm, t.b.take m, m, t.g, t.A, c2⟩) rfl (show m = (t.b.take m).length by rw [List.length_take]; omega) (show (t.b.take m).length ≤ t.b.length by rw [List.length_take]; omega) S3
            rw [htn] at this
            exact this⟩))
        have HI := Lib.hid (And.intro hi hg)
        clear hF1 hi htn hg htm hil hin hnt h1 hmn
        go_wp2_with fail
        refine HV.out.mono ?_
        rintro e w2 ⟨rfl, c2, S2⟩
        rw [setT HI.out.1] at S2
        obtain ⟨HC, HG⟩ := HF.out w2 c2 S2
        have HC := Lib.hid HC
        have HG := Lib.hid HG
        clear S2 HV HF
        go_wp2_with fail
        refine HC.out.mono ?_
        rintro e w3 ⟨rfl, VW', S3⟩
        have H3 := Lib.hid (HG.out w3 VW' S3)
        clear S3 HC HG
        go_wp2_with fail
        go_ret
        rw [HE.out]
        exact ⟨rfl, H3.out⟩

end Go.Proofs.YtiogckgchlnldaaGreat

/- Layer 8: forget of nil. -/
set_option linter.unusedSimpArgs false
set_option linter.unusedVariables false
namespace Go.Proofs.YtiogckgchlnldaaGreat
open Go.RowKit Go.Maps Go.ChangeMaps Go.MapKept Go.WideMaps
set_option maxRecDepth 100000

theorem fgN_any (p : Pc) (q1 : Nat) (w : World) (hq : Blk w q1 61 #[.pointer none]) :
    Calls Tryz.prog 74 #[.agg #[.pointer (some ⟨p.g, 0, none⟩), .int .i64 (p.fr : Nat), .int .i64 (p.to_ : Nat)], .pointer (some ⟨q1, 0, none⟩)] w fun e w' => e = .returned (.bool false) ∧ Below w.heap.size w w' := by
  have C := fbsays hq
  simp only [cellsSay, Nat.reduceAdd, and_true] at C
  have hba := below_alloc w (.cells #[.pointer (some ⟨p.g, 0, none⟩), .int .i64 (p.fr : Nat), .int .i64 (p.to_ : Nat)] 72)
  have HB := Lib.hid hba
  have Cq := fbsays (hq.alloc (.cells #[.pointer (some ⟨p.g, 0, none⟩), .int .i64 (p.fr : Nat), .int .i64 (p.to_ : Nat)] 72))
  simp only [cellsSay, Nat.reduceAdd, and_true] at Cq
  clear hq hba
  go_enter Tryz.func74, Tryz.ntmps74
  go_wp2_with fail
  go_ret
  exact ⟨rfl, HB.out⟩

set_option maxHeartbeats 4000000 in
theorem idxN_any (A : Option Addr) (c n : Nat) (L : List Pc) (q1 : Nat) (w : World) (hL : n = L.length) (hn : n ≤ 1000000) (hr : Rw w encPc 3 A L) (hq : Blk w q1 61 #[.pointer none]) :
    Calls Tryz.prog 82 #[.slice A n c, fgV q1] w fun e w' => Below w.heap.size w w' ∧ e = .returned (.int .i64 (-1)) := by
  have HH := Lib.hid (And.intro hL (And.intro hr hq))
  unfold fgV
  clear hL hr hq
  go_enter Tryz.func82, Tryz.ntmps82
  go_wp2_with fail
  go_loopw [8] (fun s wr => ∃ k : Nat, k ≤ n ∧ s = .int .i64 k ∧ Hid (Below w.heap.size w wr)) (fun s _ => n - (intOf s).toNat)
  case atStart => exact ⟨0, Nat.zero_le _, rfl, Lib.hid (Below.refl _ _)⟩
  case round =>
    obtain ⟨k, hk, rfl, HR⟩ := hrel
    by_cases hlt : k < n
    · obtain ⟨p, hp⟩ : ∃ p, L[k]? = some p := ⟨_, List.getElem?_eq_getElem (by rw [← HH.out.1]; exact hlt)⟩
      obtain ⟨pb, po, rfl, hc⟩ := (HH.out.2.1.below HR.out (Nat.le_refl _)) k p hp
      have c0 := hc 0 _ rfl
      have c1 := hc 1 _ rfl
      have c2 := hc 2 _ rfl
      simp only [Nat.add_zero] at c0
      have HC := Lib.hid (fgN_any p q1 wr (HH.out.2.2.below HR.out HH.out.2.2.lt))
      have hkl : (k : Int) < (n : Int) := by omega
      have hk0 : (0 : Int) ≤ (k : Int) := by omega
      clear hp hc
      go_wp2_with fail
      refine HC.out.mono ?_
      rintro e w2 ⟨rfl, b2⟩
      have HB := Lib.hid (on1 HR.out b2)
      clear b2 HC c0 c1 c2
      go_wp2_with fail
      go_roundw
      case measure => simp [intOf]; omega
      case rel => exact ⟨k + 1, by omega, by go_num, HB⟩
    · obtain rfl : k = n := by omega
      have hkk : ¬ ((k : Int) < (k : Int)) := by omega
      go_wp2_with fail
      go_ret
      exact ⟨HR.out, rfl⟩

theorem delN_any (A : Option Addr) (c n : Nat) (L : List Pc) (q1 : Nat) (w : World) (hL : n = L.length) (hn : n ≤ 1000000) (hr : Rw w encPc 3 A L) (hq : Blk w q1 61 #[.pointer none]) :
    Calls Tryz.prog 73 #[.slice A n c, fgV q1] w fun e w' => e = .returned (.slice A n c) ∧ Below w.heap.size w w' := by
  have HC := Lib.hid (idxN_any A c n L q1 w hL hn hr hq)
  unfold fgV at HC ⊢
  clear hq hr hL
  go_enter Tryz.func73, Tryz.ntmps73
  go_wp2_with fail
  refine HC.out.mono ?_
  rintro e w1 ⟨b1, rfl⟩
  have HB1 := Lib.hid b1
  clear b1 HC
  go_wp2_with fail
  go_ret
  exact ⟨rfl, HB1.out⟩

set_option maxHeartbeats 4000000 in
theorem forget_nil {B q room : Nat} {w0 w : World} {ts : List Kt} {d : Fd} {bm : Nat} {VW : Value} {T : List Ft}
    (hs : FsS B w0 w q room ts d bm VW T) (hF : Fi d T) :
    Calls Tryz.prog 63 #[.pointer (some ⟨q, 0, none⟩), .pointer none] w fun e w' => e = .returned (.tuple #[]) ∧ FsS B w0 w' q room ts d bm VW T := by
  have hr0 : OwnR w 0 72 encPc 3 VW (pcL T d.P) := Sep.at_ hs 2 rfl
  obtain ⟨A, c, rfl, hcl, -⟩ := OwnR.row Tryz.eltPc hr0
  obtain ⟨n, hn⟩ : ∃ n, n = (pcL T d.P).length := ⟨_, rfl⟩
  rw [← hn] at hs hcl
  have hba := below_alloc w (.cells #[.pointer none] 61)
  obtain ⟨W, hW⟩ : ∃ W, W = w.alloc (.cells #[.pointer none] 61) := ⟨_, rfl⟩
  have hqb : Blk W w.heap.size 61 #[.pointer none] := by rw [hW]; exact Blk.new _ _ _
  rw [← hW] at hba
  have hsW := Sep.go hs hba
  have hr : OwnR W 0 72 encPc 3 (.slice A n c) (pcL T d.P) := Sep.at_ hsW 2 rfl
  have hrw : Rw W encPc 3 A (pcL T d.P) := by
    obtain ⟨A0, c0, hv, -, h⟩ := OwnR.row Tryz.eltPc hr
    injection hv with e1 _ _
    rw [e1]; exact h
  have HC := Lib.hid (delN_any A c n (pcL T d.P) w.heap.size W hn (by rw [hn, pcL_len]; exact hF.pl) hrw hqb)
  have C := fbsays (FsS.bx hsW)
  simp only [cellsSay, fsc, Nat.reduceAdd, and_true] at C
  have HS := Lib.hid hsW
  unfold fgV at HC
  have HN := Lib.hid hn
  clear hs hF hba hqb hsW hr hn hr0 hrw
  go_enter Tryz.func63, Tryz.ntmps63
  go_upto_region 1 with fail
  rw [← hW]
  clear hW
  go_wp2_with fail
  refine HC.out.mono ?_
  rintro e w2 ⟨rfl, b2⟩
  have S2 := Sep.go HS.out b2
  have C2 := fbsays (FsS.bx S2)
  simp only [cellsSay, fsc, Nat.reduceAdd, and_true] at C2
  have HS2 := Lib.hid S2
  clear S2 b2 HC C HS
  go_wp2_with fail
  generalize hW3 : World.setCell _ _ _ = w3
  have S3 := Sep.put HS2.out 0 q [(2, .slice A n c)] (fsc room bm (.slice A n c) d) hW3
  go_end0
  rw [← HN.out]
  exact ⟨rfl, S3⟩

end Go.Proofs.YtiogckgchlnldaaGreat

/- Layer 8: the map's operations; Remove. -/
set_option linter.unusedSimpArgs false
set_option linter.unusedVariables false
namespace Go.Proofs.YtiogckgchlnldaaGreat
open Go.RowKit Go.Maps Go.ChangeMaps Go.MapKept Go.WideMaps
set_option maxRecDepth 100000

section
variable (w : World) {ops : Array Oper} {rest : List Oper} {o : Oper} {a : Act} {Q : Exit → Act → World → Prop}
theorem step_delM (hg : o.guard = none) (m x : Operand) (hop : o.op = Op.call { callee := Callee.builtin Builtin.delete, args := #[m, x], argTypes := #[FMT, FKT] }) (b : Nat) (M : List (Nm × Nat)) (hm : a.eval m = .map (some b)) (h : Mp w b M) (s : Nm) (hs : s.length ≤ maxLen) (hx : a.eval x = .string ⟨s.toArray⟩)
    (M' : List (Nm × Nat)) (hM : ∀ t, findM M' t = if t = s then none else findM M t) (hl : M'.length + (if (findM M s).isSome then 1 else 0) = M.length)
    (hK : ∀ w', Mp w' b M' → w.grownBy w' (some b) → wpList Tryz.prog ops Q rest (a.put o.dst (.tuple #[])) w') : wpList Tryz.prog ops Q (o :: rest) a w := by
  obtain ⟨D, hown, m2, m3, m4, m5⟩ := h
  refine wpList_delete_own w hg m x FMT FKT hop 61 Tryz.fsLaw Tryz.underlying62 ptrE b _ D hm hown _ _ hx (key_ofF s hs) (fun w' h' ht => hK w' ?_ ht.grown)
  exact Mp.del hown h' m2 m3 m4 m5 hM hl
theorem step_putM (hg : o.guard = none) (m x v : Operand) (hop : o.op = Op.mapUpdate FMT m x v) (b : Nat) (M : List (Nm × Nat)) (hm : a.eval m = .map (some b)) (h : Mp w b M) (hn : M.length < maxLen) (s : Nm) (hs : s.length ≤ maxLen) (hx : a.eval x = .string ⟨s.toArray⟩) (g : Nat) (hv : a.eval v = .pointer (some ⟨g, 0, none⟩))
    (M' : List (Nm × Nat)) (hM : ∀ t, findM M' t = if t = s then some g else findM M t) (hl : M'.length = if (findM M s).isSome then M.length else M.length + 1)
    (hK : ∀ w', Mp w' b M' → w.grownBy w' (some b) → wpList Tryz.prog ops Q rest (a.put o.dst undef) w') : wpList Tryz.prog ops Q (o :: rest) a w := by
  obtain ⟨D, hown, m2, m3, m4, m5⟩ := h
  refine wpList_mapUpdate_in w hg m x v FMT hop FKT 61 Tryz.fsLaw Tryz.underlying62 ptrE b _ D hm hown hn _ _ _ hx hv (key_ofF s hs) (.lit (.int .i64 g)) [] rfl (fun w' h' ht => hK w' ?_ ht.grown)
  exact Mp.put hown h' m2 m3 m4 m5 hM hl
end

/-- without a file -/
def dropT (n : Nm) (T : List Ft) : List Ft := T.filter fun t => !(t.nm == n)
theorem dropT_find (n : Nm) : ∀ (T : List Ft) (s : Nm), (dropT n T).find? (fun x => x.nm == s) = if s = n then none else T.find? (fun x => x.nm == s)
  | [], s => by split <;> rfl
  | x :: xs, s => by
    have ih := dropT_find n xs s
    unfold dropT at ih ⊢
    rw [List.filter_cons]
    by_cases hx : x.nm = n
    · rw [if_neg (by simp [hx]), ih]
      split
      · rfl
      · rename_i hs
        rw [List.find?_cons, beq_eq_false_iff_ne.2 (by rw [hx]; exact fun e => hs e.symm)]
    · rw [if_pos (by simp [hx]), List.find?_cons, List.find?_cons, ih]
      by_cases hs : s = n
      · subst hs
        simp [beq_eq_false_iff_ne.2 hx]
      · rw [if_neg hs, if_neg hs]
theorem dropT_len {T : List Ft} (hp : T.Pairwise fun a b => a.nm ≠ b.nm) {t : Ft} (ht : t ∈ T) : (dropT t.nm T).length + 1 = T.length := by
  induction T with
  | nil => simp at ht
  | cons x xs ih =>
    obtain ⟨h1, h2⟩ := List.pairwise_cons.1 hp
    rcases List.mem_cons.1 ht with rfl | ht
    · have : dropT t.nm (t :: xs) = xs := by
        unfold dropT
        rw [List.filter_cons, if_neg (by simp)]
        exact List.filter_eq_self.2 fun y hy => by simpa using fun e => h1 y hy e.symm
      rw [this, List.length_cons]
    · have : dropT t.nm (x :: xs) = x :: dropT t.nm xs := by
        unfold dropT
        rw [List.filter_cons, if_pos (by simpa using h1 t ht)]
      rw [this, List.length_cons, List.length_cons, ih h2 ht]
theorem dropT_nm {n : Nm} {T : List Ft} (M : nmG (dropT n T) = nmG (dropT n T)) (s : Nm) : findM (nmG (dropT n T)) s = if s = n then none else findM (nmG T) s := by
  rw [findM_T, findM_T, dropT_find]
  split <;> rfl
theorem sum_filter_le (f : Ft → Nat) (p : Ft → Bool) : ∀ T : List Ft, ((T.filter p).map f).sum ≤ (T.map f).sum
  | [] => Nat.le_refl _
  | x :: xs => by
    have := sum_filter_le f p xs
    rw [List.filter_cons]
    split
    · rw [List.map_cons, List.map_cons, List.sum_cons, List.sum_cons]; omega
    · rw [List.map_cons, List.sum_cons]; omega
theorem Fi.dropd {d : Fd} {T : List Ft} (h : Fi d T) (n : Nm) : Fi { d with F := dropN n d.F, P := dropN n d.P } (dropT n T) := by
  have hF : (dropT n T).map (fun t => (t.nm, t.b.take t.su)) = dropN n d.F := by
    rw [← h.F]
    unfold dropT dropN
    rw [List.filter_map]
    rfl
  have hok : ∀ x ∈ dropT n T, x.su ≤ x.b.length ∧ x.b = x.b.take x.su ++ pcs (dropN n d.P) x.nm ∧ x.nm.length ≤ 16 := fun x hx => by
    obtain ⟨hx1, hx2⟩ := List.mem_filter.1 hx
    rw [pcs_drop_ne (by simpa using hx2)]
    exact h.ok x hx1
  refine ⟨hF, h.up.drop n, hok, fun p hp => ?_, ?_, ?_, ?_⟩
  · obtain ⟨hp1, hp2⟩ := List.mem_filter.1 hp
    obtain ⟨y, hy, e⟩ := h.pn p hp1
    exact ⟨y, List.mem_filter.2 ⟨hy, by rw [e]; exact hp2⟩, e⟩
  · exact Nat.le_trans (List.length_filter_le _ _) h.pl
  · rw [used_T (d := { d with F := dropN n d.F, P := dropN n d.P }) hF (fun x hx => (hok x hx).2.1)]
    have := h.us
    rw [h.used] at this
    exact Nat.le_trans (sum_filter_le _ _ T) this
  · exact Nat.le_trans (List.length_filter_le _ _) h.fl
theorem pcL_dropT {d : Fd} {T : List Ft} (h : Fi d T) (hin : ∀ t ∈ T, ∀ u ∈ T, t.g = u.g → t = u) {t : Ft} (ht : t ∈ T) : pcL (dropT t.nm T) (dropN t.nm d.P) = (pcL T d.P).filter fun p => !goneP t.g p := by
  rw [← pcL_drop h hin ht]
  refine pcL_congr (fun p hp => ?_)
  have : p.1 ≠ t.nm := by
    have := (List.mem_filter.1 hp).2
    simpa using this
  rw [dropT_find, if_neg this]

set_option maxHeartbeats 4000000 in
theorem remove_any {B q room : Nat} {w0 w : World} {ts : List Kt} {d : Fd} (n : Nm) (hn : n.length ≤ maxLen) (h : FsI B w0 w q room ts d) (hl : d.lf ≤ 1000000) :
    Calls Tryz.prog 43 #[.pointer (some ⟨q, 0, none⟩), .string ⟨n.toArray⟩] w fun e w' => e = .returned (.int .u16 ((removeD d n).1 : Nat)) ∧ FsI B w0 w' q room ts (removeD d n).2 := by
  have h0 := h
  obtain ⟨bm, VW, T, hs, hF⟩ := h
  have C := fbsays (FsS.bx hs)
  simp only [cellsSay, fsc, Nat.reduceAdd, and_true] at C
  have look := (FsS.map hs).look n hn
  rw [findM_T] at look
  cases hat : atF d.F n with
  | none =>
    rw [hF.gone hat] at look
    simp only [Option.map_none, ptrV] at look
    have HE := Lib.hid (show removeD d n = (80, d) by unfold removeD; rw [hat]; rfl)
    have H0 := Lib.hid h0
    clear hs hF hat h0
    go_enter Tryz.func43, Tryz.ntmps43
    go_wp2_with fail
    go_ret
    rw [HE.out]
    exact ⟨rfl, H0.out⟩
  | some x =>
    obtain ⟨i, t, hi, hf, htn, -⟩ := hF.there hat
    rw [hf] at look
    simp only [Option.map_some, ptrV] at look
    obtain ⟨g, hg⟩ : ∃ g, g = t.g := ⟨_, rfl⟩
    rw [← hg] at look
    have HR := Lib.hid (runs_S hs hl)
    have hk := runs_keeps d
    have he : removeD d n = (0, if (runsD d).1 = true then { (runsD d).2 with F := dropN n (runsD d).2.F, P := dropN n (runsD d).2.P } else (runsD d).2) := by
      unfold removeD
      rw [hat]
      rfl
    obtain ⟨r, hr⟩ : ∃ r, r = runsD d := ⟨_, rfl⟩
    rw [← hr] at HR hk he
    clear hr
    obtain ⟨rb, rd⟩ := r
    have HR : Hid (Calls Tryz.prog 20 #[.pointer (some ⟨q, 0, none⟩)] w fun e w' => e = .returned (.bool rb) ∧ FsS B w0 w' q room ts rd bm VW T) := HR
    have HE : Hid (removeD d n = (0, if rb = true then { rd with F := dropN n rd.F, P := dropN n rd.P } else rd)) := Lib.hid he
    have hF1 := hF.same (d' := rd) hk.1 hk.2
    have HT := Lib.hid (And.intro hF1 (And.intro hi (And.intro htn hg)))
    clear hs hF hat h0 hi hf htn hg hk he hF1
    go_enter Tryz.func43, Tryz.ntmps43
    go_wp2_with fail
    refine HR.out.mono ?_
    rintro e w1 ⟨rfl, h1⟩
    clear HR
    cases rb with
    | false =>
      have H1 := Lib.hid h1
      clear h1
      go_wp2_with fail
      go_ret
      rw [HE.out]
      exact ⟨rfl, bm, VW, T, H1.out, HT.out.1⟩
    | true =>
      obtain ⟨hF1, hi, htn, hg⟩ := HT.out
      have htm := List.mem_of_getElem? hi
      have hin : ∀ t ∈ T, ∀ u ∈ T, t.g = u.g → t = u := fun t ht u hu e => FsS.inj h1 ht hu e
      have HC := Lib.hid (forget_any h1 (by rw [pcL_len]; exact hF1.pl) htm (fun p hp => pcL_mem hF1 hp))
      rw [← hg] at HC
      have hM1 := dropT_nm (n := n) (T := T) rfl
      have hM2 : (nmG (dropT n T)).length + (if (findM (nmG T) n).isSome then 1 else 0) = (nmG T).length := by
        rw [nmG_len, nmG_len, ← htn, findM_T, find_name hF1.names htm]
        exact dropT_len hF1.names htm
      have HM := Lib.hid (And.intro hM1 hM2)
      have HF := Lib.hid (show pcL (dropT n T) (dropN n rd.P) = (pcL T rd.P).filter (fun p => !goneP g p) by rw [hg, ← htn]; exact pcL_dropT hF1 hin htm)
      clear hF1 hi htn hg htm hin h1 hM1 hM2
      go_wp2_with fail
      refine HC.out.mono ?_
      rintro e w2 ⟨rfl, VW', S2⟩
      have C2 := fbsays (S2.blk 0)
      simp only [cellsSay, fsc, Nat.reduceAdd, and_true] at C2
      have hMp : Mp w2 bm (nmG T) := S2.at_ 1 rfl
      have H2 := Lib.hid S2
      clear S2 HC C look
      go_wp2_with (at_delete; go_must (refine step_delM _ rfl _ _ rfl bm (nmG T) rfl hMp n hn rfl (nmG (dropT n T)) HM.out.1 HM.out.2 ?_); intro w3 hMp3 hg3)
      go_ret
      have S3 := H2.out.call (t' := thM bm (nmG (dropT n T))) 1 rfl (Tou.of_grown hg3 (fun j e => by injection e with e; exact e.symm)) hMp3 (fun j hj => .inl hj)
      rw [HE.out]
      refine ⟨rfl, bm, VW', dropT n T, ?_, HT.out.1.dropd n⟩
      show Sep B w0 w3 (thB q 67 (fsc room bm VW' rd) :: thM bm (nmG (dropT n T)) :: thP VW' (pcL (dropT n T) (dropN n rd.P)) :: ((dropT n T).map thF ++ ts))
      rw [HF.out]
      exact S3.sub (((List.Sublist.append_right (List.Sublist.map thF (List.filter_sublist (l := T))) ts).cons_cons _).cons_cons _ |>.cons_cons _)

end Go.Proofs.YtiogckgchlnldaaGreat

/- Layer 8: Rename: the data. -/
set_option linter.unusedSimpArgs false
set_option linter.unusedVariables false
namespace Go.Proofs.YtiogckgchlnldaaGreat
open Go.RowKit Go.Maps Go.ChangeMaps Go.MapKept Go.WideMaps
set_option maxRecDepth 100000

theorem dropT_perm {T : List Ft} (hp : T.Pairwise fun a b => a.nm ≠ b.nm) {t : Ft} (ht : t ∈ T) : T.Perm (t :: dropT t.nm T) := by
  induction T with
  | nil => simp at ht
  | cons x xs ih =>
    obtain ⟨h1, h2⟩ := List.pairwise_cons.1 hp
    rcases List.mem_cons.1 ht with rfl | ht
    · have : dropT t.nm (t :: xs) = xs := by
        unfold dropT
        rw [List.filter_cons, if_neg (by simp)]
        exact List.filter_eq_self.2 fun y hy => by simpa using fun e => h1 y hy e.symm
      rw [this]
    · have : dropT t.nm (x :: xs) = x :: dropT t.nm xs := by
        unfold dropT
        rw [List.filter_cons, if_pos (by simpa using h1 t ht)]
      rw [this]
      exact ((ih h2 ht).cons x).trans (List.Perm.swap t x _)
/-- a file under another name, in the place of the file that had it -/
def renT (m : Nm) (t : Ft) (T : List Ft) : List Ft := insT ⟨m, t.b, t.su, t.g, t.A, t.c⟩ (dropT t.nm (dropT m T))
section
variable {T : List Ft} {t : Ft} {m : Nm}
theorem renT_sub : (dropT t.nm (dropT m T)).Sublist (dropT t.nm T) := List.Sublist.filter _ List.filter_sublist
theorem renT_perm : (renT m t T).Perm (⟨m, t.b, t.su, t.g, t.A, t.c⟩ :: dropT t.nm (dropT m T)) := insT_perm _ _
theorem renT_no : ∀ x ∈ dropT t.nm (dropT m T), x.nm ≠ m := fun x hx => by
  have := (List.mem_filter.1 (List.mem_filter.1 hx).1).2
  simpa using this
theorem renT_find (s : Nm) : (renT m t T).find? (fun x => x.nm == s) = if s = m then some ⟨m, t.b, t.su, t.g, t.A, t.c⟩ else if s = t.nm then none else T.find? (fun x => x.nm == s) := by
  unfold renT
  rw [insT_find _ (fun x hx => renT_no x hx)]
  show (if s = m then _ else _) = _
  split
  · rfl
  · rename_i hs
    rw [dropT_find, dropT_find, if_neg hs]
theorem renT_pos (htm : T.find? (fun x => x.nm == t.nm) = some t) (hne : t.nm ≠ m) : posT (renT m t T) m = posT T t.nm ∧ ∀ k, k ≠ m → k ≠ t.nm → posT (renT m t T) k = posT T k := by
  constructor
  · unfold posT
    rw [renT_find, if_pos rfl, htm]
    rfl
  · intro k h1 h2
    unfold posT
    rw [renT_find, if_neg h1, if_neg h2]
theorem renT_g (htm : T.find? (fun x => x.nm == t.nm) = some t) (hne : t.nm ≠ m) : gT (renT m t T) m = gT T t.nm ∧ ∀ k, k ≠ m → k ≠ t.nm → gT (renT m t T) k = gT T k := by
  constructor
  · unfold gT
    rw [findM_T, findM_T, renT_find, if_pos rfl, htm]
    rfl
  · intro k h1 h2
    unfold gT
    rw [findM_T, findM_T, renT_find, if_neg h1, if_neg h2]
theorem mem_dropN {n : Nm} {P : List (Nm × List UInt8)} {p : Nm × List UInt8} (hp : p ∈ dropN n P) : p ∈ P ∧ p.1 ≠ n := by
  obtain ⟨h1, h2⟩ := List.mem_filter.1 hp
  exact ⟨h1, by simpa using h2⟩
theorem pcL_ren (htm : T.find? (fun x => x.nm == t.nm) = some t) (hne : t.nm ≠ m) (P : List (Nm × List UInt8)) : pcL (renT m t T) (renP t.nm m (dropN m P)) = pcL T (dropN m P) := by
  unfold pcL
  obtain ⟨p1, p2⟩ := renT_pos htm hne
  obtain ⟨g1, g2⟩ := renT_g htm hne
  rw [spans_ren (dropN m P) (posT T) (posT (renT m t T)) t.nm m (fun p hp => (mem_dropN hp).2) p1 p2, List.map_map]
  apply List.map_congr_left
  intro s hs
  obtain ⟨p, hp, e⟩ := mem_spans hs
  have hsm : s.1 ≠ m := by rw [← e]; exact (mem_dropN hp).2
  show (⟨gT (renT m t T) (if s.1 == t.nm then (m, s.2) else s).1, (if s.1 == t.nm then (m, s.2) else s).2.1, (if s.1 == t.nm then (m, s.2) else s).2.2⟩ : Pc) = ⟨gT T s.1, s.2.1, s.2.2⟩
  by_cases h : s.1 = t.nm
  · rw [if_pos (by simp [h]), h]
    show (⟨gT (renT m t T) m, s.2.1, s.2.2⟩ : Pc) = _
    rw [g1]
  · rw [if_neg (by simp [h]), g2 _ hsm h]
end
theorem sum_perm {l l' : List Ft} (h : l.Perm l') (f : Ft → Nat) : (l.map f).sum = (l'.map f).sum := by
  induction h with
  | nil => rfl
  | cons x _ ih => rw [List.map_cons, List.map_cons, List.sum_cons, List.sum_cons, ih]
  | swap x y l => simp only [List.map_cons, List.sum_cons]; omega
  | trans _ _ h1 h2 => exact h1.trans h2
theorem Fi.rend {d : Fd} {T : List Ft} (h : Fi d T) {t : Ft} {m : Nm} (ht : t ∈ T) (hm : m.length ≤ 16) (hne : t.nm ≠ m) : Fi { d with F := insF (m, t.b.take t.su) (dropN t.nm (dropN m d.F)), P := renP t.nm m (dropN m d.P) } (renT m t T) := by
  have htm := find_name h.names ht
  have hF : (renT m t T).map (fun t => (t.nm, t.b.take t.su)) = insF (m, t.b.take t.su) (dropN t.nm (dropN m d.F)) := by
    unfold renT
    rw [insT_map]
    show insF (m, t.b.take t.su) _ = _
    congr 1
    rw [← h.F]
    unfold dropT dropN
    rw [List.filter_map, List.filter_map]
    rfl
  have hok : ∀ x ∈ renT m t T, x.su ≤ x.b.length ∧ x.b = x.b.take x.su ++ pcs (renP t.nm m (dropN m d.P)) x.nm ∧ x.nm.length ≤ 16 := fun x hx => by
    rcases List.mem_cons.1 (renT_perm.mem_iff.1 hx) with rfl | hx
    · obtain ⟨o1, o2, o3⟩ := h.ok t ht
      refine ⟨o1, ?_, hm⟩
      show t.b = t.b.take t.su ++ pcs (renP t.nm m (dropN m d.P)) m
      rw [pcs_ren_same _ (fun p hp => (mem_dropN hp).2), pcs_drop_ne hne]
      exact o2
    · have hxm := renT_no x hx
      have hx2 := List.mem_filter.1 hx
      have hxn : x.nm ≠ t.nm := by simpa using hx2.2
      obtain ⟨o1, o2, o3⟩ := h.ok x (List.mem_filter.1 hx2.1).1
      rw [pcs_ren_ne _ hxn hxm, pcs_drop_ne hxm]
      exact ⟨o1, o2, o3⟩
  have hsum : (T.map fun t => t.b.length).sum = t.b.length + ((dropT t.nm T).map fun t => t.b.length).sum := by
    rw [sum_perm (dropT_perm h.names ht), List.map_cons, List.sum_cons]
  refine ⟨hF, ?_, hok, fun p hp => ?_, ?_, ?_, ?_⟩
  · refine insF_up ((h.up.drop m).drop t.nm) (fun x hx => ?_)
    exact (mem_dropN (mem_dropN hx).1).2
  · obtain ⟨q, hq, rfl⟩ := List.mem_map.1 hp
    obtain ⟨hq1, hq2⟩ := mem_dropN hq
    by_cases hqn : q.1 = t.nm
    · refine ⟨⟨m, t.b, t.su, t.g, t.A, t.c⟩, renT_perm.mem_iff.2 List.mem_cons_self, ?_⟩
      rw [if_pos (by simp [hqn])]
    · obtain ⟨y, hy, e⟩ := h.pn q hq1
      refine ⟨y, renT_perm.mem_iff.2 (List.mem_cons_of_mem _ (List.mem_filter.2 ⟨List.mem_filter.2 ⟨hy, by simp [e, hq2]⟩, by simp [e, hqn]⟩)), ?_⟩
      rw [if_neg (by simp [hqn]), e]
  · show (renP t.nm m (dropN m d.P)).length ≤ 1000000
    unfold renP
    rw [List.length_map]
    exact Nat.le_trans (List.length_filter_le _ _) h.pl
  · rw [used_T (d := { d with F := insF (m, t.b.take t.su) (dropN t.nm (dropN m d.F)), P := renP t.nm m (dropN m d.P) }) hF (fun x hx => (hok x hx).2.1), sum_perm renT_perm, List.map_cons, List.sum_cons]
    have h1 := h.us
    rw [h.used, hsum] at h1
    have h2 : ((dropT t.nm (dropT m T)).map fun t => t.b.length).sum ≤ ((dropT t.nm T).map fun t => t.b.length).sum := by
      have e : dropT t.nm (dropT m T) = dropT m (dropT t.nm T) := by
        unfold dropT
        rw [List.filter_filter, List.filter_filter]
        congr 1
        funext x
        exact Bool.and_comm _ _
      rw [e]
      exact sum_filter_le _ _ _
    show t.b.length + _ ≤ _
    omega
  · rw [renT_perm.length_eq, List.length_cons]
    have := dropT_len h.names ht
    have := (renT_sub (T := T) (t := t) (m := m)).length_le
    have := h.fl
    omega
theorem Sep.ren {B q : Nat} {w0 w : World} {ts : List Kt} {T : List Ft} {t : Ft} {m : Nm} {K0 K1 K2 : Kt} (hp : T.Pairwise fun a b => a.nm ≠ b.nm) (ht : t ∈ T) (hs : Sep B w0 w (K0 :: K1 :: K2 :: (T.map thF ++ ts))) : Sep B w0 w (K0 :: K1 :: K2 :: ((renT m t T).map thF ++ ts)) := by
  have h1 := hs.perm (us := K0 :: K1 :: K2 :: ((t :: dropT t.nm T).map thF ++ ts)) ((((((dropT_perm hp ht).map thF).append_right ts).cons _).cons _).cons _)
  have h2 := h1.sub (us := K0 :: K1 :: K2 :: ((t :: dropT t.nm (dropT m T)).map thF ++ ts)) (((((renT_sub (T := T) (t := t) (m := m)).cons_cons t).map thF).append_right ts).cons_cons _ |>.cons_cons _ |>.cons_cons _)
  have e : (t :: dropT t.nm (dropT m T)).map thF = ((⟨m, t.b, t.su, t.g, t.A, t.c⟩ : Ft) :: dropT t.nm (dropT m T)).map thF := rfl
  rw [e] at h2
  exact h2.perm ((((((renT_perm (T := T) (t := t) (m := m)).symm.map thF).append_right ts).cons _).cons _).cons _)

end Go.Proofs.YtiogckgchlnldaaGreat

/- Layer 8: Rename. -/
set_option linter.unusedSimpArgs false
set_option linter.unusedVariables false
namespace Go.Proofs.YtiogckgchlnldaaGreat
open Go.RowKit Go.Maps Go.ChangeMaps Go.MapKept Go.WideMaps
set_option maxRecDepth 100000

/-- the map behind the store and behind the delete -/
def putM (m : Nm) (g : Nat) (T : List Ft) : List (Nm × Nat) := (m, g) :: nmG (dropT m T)
theorem putM_find (m : Nm) (g : Nat) (T : List Ft) (s : Nm) : findM (putM m g T) s = if s = m then some g else findM (nmG T) s := by
  unfold putM findM
  rw [List.find?_cons]
  by_cases h : s = m
  · subst h
    simp
  · rw [if_neg h, beq_eq_false_iff_ne.2 (fun e => h e.symm)]
    have := dropT_nm (n := m) (T := T) rfl s
    rw [if_neg h] at this
    exact this
theorem putM_len {m : Nm} {g : Nat} {T : List Ft} (hp : T.Pairwise fun a b => a.nm ≠ b.nm) : (putM m g T).length = if (findM (nmG T) m).isSome then (nmG T).length else (nmG T).length + 1 := by
  unfold putM
  rw [List.length_cons, nmG_len, nmG_len, findM_T]
  cases h : T.find? (fun x => x.nm == m) with
  | none =>
    have : dropT m T = T := List.filter_eq_self.2 fun x hx => by simpa using uniq_of h x hx
    rw [this]
    rfl
  | some u =>
    have hu := List.mem_of_find?_eq_some h
    have hn : u.nm = m := by simpa using List.find?_some h
    have := dropT_len hp hu
    rw [hn] at this
    rw [this]
    rfl
theorem renM_find {m : Nm} {t : Ft} {T : List Ft} (hne : t.nm ≠ m) (s : Nm) : findM (nmG (renT m t T)) s = if s = t.nm then none else findM (putM m t.g T) s := by
  rw [findM_T, renT_find, putM_find, findM_T]
  by_cases h : s = m
  · subst h
    rw [if_pos rfl, if_neg (fun e => hne e.symm), if_pos rfl]
    rfl
  · rw [if_neg h, if_neg h]
    split <;> rfl
theorem renM_len {m : Nm} {t : Ft} {T : List Ft} (hp : T.Pairwise fun a b => a.nm ≠ b.nm) (ht : t ∈ T) (hne : t.nm ≠ m) : (nmG (renT m t T)).length + (if (findM (putM m t.g T) t.nm).isSome then 1 else 0) = (putM m t.g T).length := by
  have hf : findM (putM m t.g T) t.nm = some t.g := by
    rw [putM_find, if_neg hne, findM_T, find_name hp ht]; rfl
  rw [hf, nmG_len]
  unfold putM
  rw [List.length_cons, nmG_len]
  show _ + 1 = _
  rw [renT_perm.length_eq, List.length_cons]
  have ht2 : t ∈ dropT m T := List.mem_filter.2 ⟨ht, by simpa using hne⟩
  have := dropT_len (hp.sublist (List.filter_sublist (p := fun x => !(x.nm == m)))) ht2
  have e : (dropT t.nm (dropT m T)).length + 1 = (dropT m T).length := this
  omega
theorem dropN_none {d : Fd} {T : List Ft} (h : Fi d T) {m : Nm} (hm : T.find? (fun x => x.nm == m) = none) : dropN m d.P = d.P := List.filter_eq_self.2 fun p hp => by
  obtain ⟨y, hy, e⟩ := h.pn p hp
  have := uniq_of hm y hy
  rw [e] at this
  simpa using this

set_option maxHeartbeats 4000000 in
theorem rename_any {B q room : Nat} {w0 w : World} {ts : List Kt} {d : Fd} (n m : Nm) (hn : n.length ≤ maxLen) (hm : m.length ≤ maxLen) (h : FsI B w0 w q room ts d) (hl : d.lf ≤ 1000000) :
    Calls Tryz.prog 68 #[.pointer (some ⟨q, 0, none⟩), .string ⟨n.toArray⟩, .string ⟨m.toArray⟩] w fun e w' => e = .returned (.int .u16 ((renameD d n m).1 : Nat)) ∧ FsI B w0 w' q room ts (renameD d n m).2 := by
  have HN := Lib.hid (named_any m w hm)
  have h0 := h
  obtain ⟨bm, VW, T, hs, hF⟩ := h
  have C := fbsays (FsS.bx hs)
  simp only [cellsSay, fsc, Nat.reduceAdd, and_true] at C
  have look := (FsS.map hs).look n hn
  rw [findM_T] at look
  cases hat : atF d.F n with
  | none =>
    rw [hF.gone hat] at look
    simp only [Option.map_none, ptrV] at look
    have HE := Lib.hid (show renameD d n m = (80, d) by unfold renameD; rw [hat])
    have H0 := Lib.hid h0
    clear hs hF hat h0
    go_enter Tryz.func68, Tryz.ntmps68
    go_wp2_with fail
    go_ret
    rw [HE.out]
    exact ⟨rfl, H0.out⟩
  | some x =>
    obtain ⟨i, t, hi, hf, htn, htx⟩ := hF.there hat
    rw [hf] at look
    simp only [Option.map_some, ptrV] at look
    obtain ⟨g, hg⟩ : ∃ g, g = t.g := ⟨_, rfl⟩
    rw [← hg] at look
    cases hok : okN m with
    | false =>
      rw [hok] at HN
      have HE := Lib.hid (show renameD d n m = (1, d) by unfold renameD; rw [hat]; show (if _ then _ else _) = _; rw [if_pos hok])
      have H0 := Lib.hid h0
      clear hs hF hat h0 hi hf htn htx hg hok
      go_enter Tryz.func68, Tryz.ntmps68
      go_wp2_with fail
      refine HN.out.mono ?_
      rintro e w1 ⟨rfl, hw⟩
      rw [hw]
      clear hw HN
      go_wp2_with fail
      go_ret
      rw [HE.out]
      exact ⟨rfl, H0.out⟩
    | true =>
      rw [hok] at HN
      by_cases hnm : n = m
      · have HE := Lib.hid (show renameD d n m = (0, d) by unfold renameD; rw [hat]; show (if _ then _ else _) = _; rw [if_neg (by rw [hok]; simp), if_pos hnm])
        have H0 := Lib.hid h0
        clear hs hF hat h0 hi hf htn htx hg hok
        subst hnm
        go_enter Tryz.func68, Tryz.ntmps68
        go_wp2_with fail
        refine HN.out.mono ?_
        rintro e w1 ⟨rfl, hw⟩
        rw [hw]
        clear hw HN
        go_wp2_with fail
        go_ret
        rw [HE.out]
        exact ⟨rfl, H0.out⟩
      · have HR := Lib.hid (runs_S hs hl)
        have hk := runs_keeps d
        have he : renameD d n m = (0, if (runsD d).1 = true then { (runsD d).2 with F := insF (m, x) (dropN n (dropN m (runsD d).2.F)), P := renP n m (dropN m (runsD d).2.P) } else (runsD d).2) := by
          unfold renameD
          rw [hat]
          show (if _ then _ else _) = _
          rw [if_neg (by rw [hok]; simp), if_neg hnm]
          rfl
        obtain ⟨r, hr⟩ : ∃ r, r = runsD d := ⟨_, rfl⟩
        rw [← hr] at HR hk he
        clear hr
        obtain ⟨rb, rd⟩ := r
        have HR : Hid (Calls Tryz.prog 20 #[.pointer (some ⟨q, 0, none⟩)] w fun e w' => e = .returned (.bool rb) ∧ FsS B w0 w' q room ts rd bm VW T) := HR
        have HE : Hid (renameD d n m = (0, if rb = true then { rd with F := insF (m, x) (dropN n (dropN m rd.F)), P := renP n m (dropN m rd.P) } else rd)) := Lib.hid he
        have hF1 := hF.same (d' := rd) hk.1 hk.2
        have HT := Lib.hid (And.intro hF1 (And.intro hi (And.intro htn (And.intro hg (And.intro htx (And.intro (of_decide_eq_true hok) hnm))))))
        have hnb : (n == m) = false := beq_eq_false_iff_ne.2 hnm
        clear hs hF hat h0 hi hf htn htx hg hk he hF1 hok
        go_enter Tryz.func68, Tryz.ntmps68
        go_wp2_with fail
        refine HN.out.mono ?_
        rintro e w1 ⟨rfl, hw⟩
        rw [hw]
        clear hw HN
        go_wp2_with fail
        refine HR.out.mono ?_
        rintro e w1 ⟨rfl, h1⟩
        clear HR C look
        cases rb with
        | false =>
          have H1 := Lib.hid h1
          clear h1
          go_wp2_with fail
          go_ret
          rw [HE.out]
          exact ⟨rfl, bm, VW, T, H1.out, HT.out.1⟩
        | true =>
          obtain ⟨hF1, hi, htn, hg, htx, hok, -⟩ := HT.out
          have htm := List.mem_of_getElem? hi
          have hne : t.nm ≠ m := by rw [htn]; exact hnm
          have hin : ∀ t ∈ T, ∀ u ∈ T, t.g = u.g → t = u := fun t ht u hu e => FsS.inj h1 ht hu e
          have C1 := fbsays (FsS.bx h1)
          simp only [cellsSay, fsc, Nat.reduceAdd, and_true] at C1
          have look := (FsS.map h1).look m hm
          rw [findM_T] at look
          have HG := Lib.hid (fun (w5 : World) (VW' : Value) (S5 : Sep B w0 w5 (thB q 67 (fsc room bm VW' rd) :: thM bm (nmG (renT m t T)) :: thP VW' (pcL T (dropN m rd.P)) :: (T.map thF ++ ts))) => show FsI B w0 w5 q room ts { rd with F := insF (m, x) (dropN n (dropN m rd.F)), P := renP n m (dropN m rd.P) } from by
            have h9 := hF1.rend (m := m) htm hok.2 hne
            have hf9 := find_name hF1.names htm
            have h8 := Sep.ren (q := q) (m := m) hF1.names htm S5
            rw [htx, htn] at h9
            refine ⟨bm, VW', renT m t T, ?_, h9⟩
            rw [← pcL_ren hf9 hne rd.P, htn] at h8
            exact h8)
          have HM := Lib.hid (And.intro (putM_find m g T) (And.intro (putM_len (m := m) (g := g) hF1.names) (show (∀ s, findM (nmG (renT m t T)) s = if s = n then none else findM (putM m g T) s) ∧ (nmG (renT m t T)).length + (if (findM (putM m g T) n).isSome then 1 else 0) = (putM m g T).length ∧ (nmG T).length < maxLen ∧ (putM m g T).length < maxLen from by
            have a1 := renM_find (m := m) (t := t) (T := T) hne
            have a2 := renM_len hF1.names htm hne
            rw [htn, ← hg] at a1 a2
            refine ⟨a1, a2, ?_, ?_⟩
            · rw [nmG_len]; have := hF1.fl; unfold maxLen; omega
            · have := putM_len (m := m) (g := g) hF1.names
              rw [this, nmG_len]
              have := hF1.fl
              unfold maxLen
              split <;> omega)))
          have HL : Hid (∃ o : Option Nat, (T.find? (fun x => x.nm == m)).map Ft.g = o ∧ Calls Tryz.prog 63 #[.pointer (some ⟨q, 0, none⟩), ptrV o] w1 fun e w' => e = .returned (.tuple #[]) ∧ ∃ VW', Sep B w0 w' (thB q 67 (fsc room bm VW' rd) :: thM bm (nmG T) :: thP VW' (pcL T (dropN m rd.P)) :: (T.map thF ++ ts))) := Lib.hid (by
            cases hfm : T.find? (fun x => x.nm == m) with
            | none =>
              refine ⟨none, rfl, (forget_nil h1 hF1).mono ?_⟩
              rintro e w' ⟨rfl, S⟩
              refine ⟨rfl, VW, ?_⟩
              rw [dropN_none hF1 hfm]
              exact S
            | some u =>
              have hu := List.mem_of_find?_eq_some hfm
              have hun : u.nm = m := by simpa using List.find?_some hfm
              refine ⟨some u.g, rfl, (forget_any h1 (by rw [pcL_len]; exact hF1.pl) hu (fun p hp => pcL_mem hF1 hp)).mono ?_⟩
              rintro e w' ⟨rfl, VW', S⟩
              refine ⟨rfl, VW', ?_⟩
              rw [← hun, pcL_drop hF1 hin hu]
              exact S)
          obtain ⟨o, ho, hC⟩ := HL.out
          rw [ho] at look
          have HC := Lib.hid hC
          clear hF1 hi htn hg htx hok htm hne hin h1 HL hC ho HT
          go_wp2_with fail
          refine HC.out.mono ?_
          rintro e w2 ⟨rfl, VW', S2⟩
          have C2 := fbsays (S2.blk 0)
          simp only [cellsSay, fsc, Nat.reduceAdd, and_true] at C2
          have hMp : Mp w2 bm (nmG T) := S2.at_ 1 rfl
          have H2 := Lib.hid S2
          clear S2 HC C1 look
          go_upto_region 9 with (at_mapUpdate; go_must (refine step_putM _ rfl _ _ _ rfl bm (nmG T) rfl hMp HM.out.2.2.2.2.1 m hm rfl g rfl (putM m g T) HM.out.1 HM.out.2.1 ?_); intro w3 hMp3 hg3)
          have S3 := H2.out.call (t' := thM bm (putM m g T)) 1 rfl (Tou.of_grown hg3 (fun j e => by injection e with e; exact e.symm)) hMp3 (fun j hj => .inl hj)
          have C3 := fbsays (S3.blk 0)
          simp only [cellsSay, fsc, Nat.reduceAdd, and_true] at C3
          have H3 := Lib.hid S3
          clear S3 H2 C2 hMp hg3
          go_wp2_with (at_delete; go_must (refine step_delM _ rfl _ _ rfl bm (putM m g T) rfl hMp3 n hn rfl (nmG (renT m t T)) HM.out.2.2.1 HM.out.2.2.2.1 ?_); intro w4 hMp4 hg4)
          go_ret
          have S4 := H3.out.call (t' := thM bm (nmG (renT m t T))) 1 rfl (Tou.of_grown hg4 (fun j e => by injection e with e; exact e.symm)) hMp4 (fun j hj => .inl hj)
          rw [HE.out]
          exact ⟨rfl, HG.out w4 VW' S4⟩

end Go.Proofs.YtiogckgchlnldaaGreat

/- Layer 8: Halt, Halted, Waits. -/
set_option linter.unusedSimpArgs false
set_option linter.unusedVariables false
namespace Go.Proofs.YtiogckgchlnldaaGreat
open Go.RowKit Go.Maps Go.ChangeMaps Go.MapKept Go.WideMaps
set_option maxRecDepth 100000

theorem halt_any {B q room : Nat} {w0 w : World} {ts : List Kt} {d : Fd} (k : Int) (h : FsI B w0 w q room ts d) :
    Calls Tryz.prog 33 #[.pointer (some ⟨q, 0, none⟩), .int .i64 k] w fun e w' => e = .returned (.tuple #[]) ∧ FsI B w0 w' q room ts (haltD d k) := by
  obtain ⟨bm, VW, T, hs, hF⟩ := h
  have C := fbsays (FsS.bx hs)
  simp only [cellsSay, fsc, Nat.reduceAdd, and_true] at C
  have H := Lib.hid (And.intro hs hF)
  clear hs hF
  by_cases hk : k < 0
  · have hk2 : max k 0 = 0 := by omega
    have d1 : decide (k < 0) = true := decide_eq_true hk
    have hz : k.toNat = 0 := by omega
    go_enter Tryz.func33, Tryz.ntmps33
    go_wp2_with fail
    generalize hW : World.setCell _ _ _ = w1
    go_end0
    obtain ⟨hs, hF⟩ := H.out
    refine ⟨rfl, bm, VW, T, ?_, hF.same rfl rfl⟩
    refine Sep.put hs 0 q [(3, .bool true), (4, .int .i64 0)] (fsc room bm VW (haltD d k)) hW rfl ?_
    unfold fsc haltD
    rw [hz]
    rfl
  · obtain ⟨n, rfl⟩ : ∃ n : Nat, k = (n : Int) := ⟨k.toNat, by omega⟩
    have d1 : decide ((n : Int) < 0) = false := decide_eq_false hk
    have hk2 : max (n : Int) 0 = (n : Int) := by omega
    go_enter Tryz.func33, Tryz.ntmps33
    go_wp2_with fail
    generalize hW : World.setCell _ _ _ = w1
    go_end0
    obtain ⟨hs, hF⟩ := H.out
    exact ⟨rfl, bm, VW, T, Sep.put hs 0 q [(3, .bool true), (4, .int .i64 (n : Nat))] (fsc room bm VW (haltD d (n : Int))) hW rfl rfl, hF.same rfl rfl⟩
theorem halted_any {B q room : Nat} {w0 w : World} {ts : List Kt} {d : Fd} (h : FsI B w0 w q room ts d) :
    Calls Tryz.prog 42 #[.pointer (some ⟨q, 0, none⟩)] w fun e w' => e = .returned (.bool d.dd) ∧ w' = w := by
  obtain ⟨bm, VW, T, hs, hF⟩ := h
  have C := fbsays (FsS.bx hs)
  simp only [cellsSay, fsc, Nat.reduceAdd, and_true] at C
  clear hs hF
  go_enter Tryz.func42, Tryz.ntmps42
  go_wp2_with fail
  go_ret
  exact ⟨rfl, rfl⟩
theorem waits_any {B q room : Nat} {w0 w : World} {ts : List Kt} {d : Fd} (h : FsI B w0 w q room ts d) :
    Calls Tryz.prog 41 #[.pointer (some ⟨q, 0, none⟩)] w fun e w' => e = .returned (.int .i64 (d.P.length : Nat)) ∧ w' = w := by
  obtain ⟨bm, VW, T, hs, hF⟩ := h
  have C := fbsays (FsS.bx hs)
  have hr : OwnR w 0 72 encPc 3 VW (pcL T d.P) := Sep.at_ hs 2 rfl
  obtain ⟨A, c, rfl, -, -⟩ := OwnR.row Tryz.eltPc hr
  rw [pcL_len] at C
  simp only [cellsSay, fsc, Nat.reduceAdd, and_true] at C
  clear hs hF hr
  go_enter Tryz.func41, Tryz.ntmps41
  go_wp2_with fail
  go_ret
  exact ⟨rfl, rfl⟩

end Go.Proofs.YtiogckgchlnldaaGreat

/- Layer 8: a stretch of a file's bytes cleared. -/
set_option linter.unusedSimpArgs false
set_option linter.unusedVariables false
namespace Go.Proofs.YtiogckgchlnldaaGreat
open Go.RowKit Go.Maps Go.ChangeMaps Go.MapKept Go.WideMaps
set_option maxRecDepth 100000

theorem run_clear_none (w : World) (ty : TypeId) (ad : Addr) (c : Nat) : (Builtin.clear_ #[22] ty #[.slice (some ad) 0 c]).run Tryz.prog w = .ok (.tuple #[]) w := by
  simp [Builtin.clear_, run_underlying Tryz.underlying22]
theorem run_clear_nil (w : World) (ty : TypeId) : (Builtin.clear_ #[22] ty #[.slice none 0 0]).run Tryz.prog w = .ok (.tuple #[]) w := by
  simp [Builtin.clear_, run_underlying Tryz.underlying22]
theorem OwnF.clear {w : World} {g c : Nat} {l : List UInt8} (h : OwnF w (.slice (some ⟨g, 0, none⟩) l.length c) l) (fr to_ : Nat) (h1 : fr ≤ to_) (h2 : to_ ≤ l.length) (c' : Nat) (ty : TypeId) :
    ∃ w', (Builtin.clear_ #[22] ty #[.slice (some ⟨g, fr, none⟩) (to_ - fr) c']).run Tryz.prog w = .ok (.tuple #[]) w' ∧ OwnF w' (.slice (some ⟨g, 0, none⟩) l.length c) (zeroR l fr to_) ∧ w.grownBy w' (some g) := by
  by_cases h0 : to_ = fr
  · subst h0
    rw [Nat.sub_self, zeroR_same]
    exact ⟨w, run_clear_none w ty _ c', h, World.grownBy.refl _ _⟩
  · rcases h with ⟨e0, _⟩ | ⟨g', cap, cur, e0, hg, k1, k2, k3, k4, k5⟩
    · cases e0
    · injection e0 with e1 e2 e3
      injection e1 with e1
      injection e1 with e1 _ _
      subst e1; subst e3
      obtain ⟨n, hn⟩ : ∃ n, to_ - fr = n + 1 := ⟨to_ - fr - 1, by omega⟩
      have hz : (Value.int .u8 0).cells = #[.int .u8 0] := by kernel_rfl
      have hzl : (Builtin.zeroCells (Value.int .u8 0).cells (to_ - fr)).toList = List.replicate (to_ - fr) (Value.int .u8 0) := by
        rw [hz]
        simp [Builtin.zeroCells]
        apply List.ext_getElem
        · simp
        · intro i h1 h2
          simp [Nat.mod_one]
      have hst := run_storeCells_at (P := Tryz.prog) g fr 5 (List.replicate (to_ - fr) (Value.int .u8 0)) 0 cur w hg (by rw [List.length_replicate]; omega) (fun v hv => by rw [List.eq_of_mem_replicate hv]; rfl)
      have hlen : (zeroR l fr to_).length = l.length := zeroR_len h1 h2
      refine ⟨w.setRow g (cur.toList.take (fr + 0) ++ List.replicate (to_ - fr) (Value.int .u8 0) ++ cur.toList.drop (fr + 0 + (List.replicate (to_ - fr) (Value.int .u8 0)).length)).toArray, ?_, .inr ⟨g, c, _, by rw [hlen], setRow_heap w g cur _ 5 (0, 0) hg, by rw [hlen]; exact k1, ?_, ?_, ?_, ?_⟩, ⟨rfl, rfl, rfl, by simp, fun k _ hk => setRow_other w g k _ (fun e => hk (by rw [e]))⟩⟩
      · rw [hn] at hst hzl ⊢
        have hv : (zeroValue 5).run Tryz.prog w = .ok (.int .u8 0) w := by kernel_rfl
        simp [Builtin.clear_, run_underlying Tryz.underlying22, hv, hzl, hst]
      · simp only [List.size_toArray, List.length_append, List.length_take, List.length_drop, List.length_replicate, Array.length_toList, Nat.add_zero]
        omega
      · simp only [List.size_toArray, List.length_append, List.length_take, List.length_drop, List.length_replicate, Array.length_toList, Nat.add_zero]
        omega
      · simp only [List.size_toArray, List.length_append, List.length_take, List.length_drop, List.length_replicate, Array.length_toList, Nat.add_zero, hlen]
        omega
      · rw [hlen]
        simp only [List.toList_toArray, Nat.add_zero, List.length_replicate]
        have e5 : fr + (to_ - fr) = to_ := by omega
        rw [e5]
        unfold zeroR
        have a1 : (l.take fr).map bv = cur.toList.take fr := by rw [List.map_take, ← k5, List.take_take, Nat.min_eq_left (by omega)]
        have a2 : (l.drop to_).map bv = (cur.toList.drop to_).take (l.length - to_) := by rw [List.map_drop, ← k5, List.drop_take]
        have a3 : (List.replicate (to_ - fr) (0 : UInt8)).map bv = List.replicate (to_ - fr) (Value.int .u8 0) := by rw [List.map_replicate]; rfl
        rw [List.map_append, List.map_append, a1, a2, a3, List.take_append, List.take_of_length_le (by simp only [List.length_append, List.length_take, List.length_replicate]; omega)]
        congr 2
        simp only [List.length_append, List.length_take, List.length_replicate, Array.length_toList]
        omega

end Go.Proofs.YtiogckgchlnldaaGreat

/- Layer 8: Crash: the data. -/
set_option linter.unusedSimpArgs false
set_option linter.unusedVariables false
namespace Go.Proofs.YtiogckgchlnldaaGreat
open Go.RowKit Go.Maps Go.ChangeMaps Go.MapKept Go.WideMaps
set_option maxRecDepth 100000

theorem spans_take : ∀ (P : List (Nm × List UInt8)) (pos : Nm → Nat) (k : Nat), spans pos (P.take k) = (spans pos P).take k
  | [], _, k => by simp [spans]
  | p :: ps, pos, 0 => by simp [spans]
  | p :: ps, pos, k + 1 => by
    rw [List.take_succ_cons, spans_cons, spans_cons, List.take_succ_cons, spans_take ps]
theorem spans_in : ∀ (P : List (Nm × List UInt8)) (pos : Nm → Nat) (k : Nat) (s : Nm × Nat × Nat), (spans pos P)[k]? = some s → ∃ p, P[k]? = some p ∧ p.1 = s.1 ∧ s.2.2 = s.2.1 + p.2.length ∧ pos s.1 ≤ s.2.1 ∧ s.2.2 ≤ pos s.1 + (pcs P s.1).length
  | [], _, _, _, h => by simp [spans] at h
  | p :: ps, pos, 0, s, h => by
    rw [spans_cons] at h
    have e : s = (p.1, pos p.1, pos p.1 + p.2.length) := by simpa using h.symm
    subst e
    refine ⟨p, rfl, rfl, rfl, Nat.le_refl _, ?_⟩
    show pos p.1 + p.2.length ≤ pos p.1 + (pcs (p :: ps) p.1).length
    rw [pcs_cons_same, List.length_append]
    omega
  | p :: ps, pos, k + 1, s, h => by
    rw [spans_cons] at h
    have h : (spans (bump pos p.1 p.2.length) ps)[k]? = some s := by simpa using h
    obtain ⟨r, h1, h2, h3, h4, h5⟩ := spans_in ps _ k s h
    refine ⟨r, by simpa using h1, h2, h3, ?_⟩
    by_cases e : p.1 = s.1
    · rw [bump_eq e] at h4 h5
      rw [pcs_cons_eq e, List.length_append]
      omega
    · rw [bump_ne (fun x => e x.symm)] at h4 h5
      rw [pcs_cons_ne e]
      exact ⟨h4, h5⟩

/-- a file when the first pieces have had their turn -/
def crF (kept : Nat → Bool) (ss : List (Nm × Nat × Nat)) (t : Ft) : Ft := ⟨t.nm, (stF kept t.nm ss 0 (t.b, t.su)).1, (stF kept t.nm ss 0 (t.b, t.su)).2, t.g, t.A, t.c⟩
def crT (kept : Nat → Bool) (ss : List (Nm × Nat × Nat)) (T : List Ft) : List Ft := T.map (crF kept ss)
theorem crT_nil (kept : Nat → Bool) (T : List Ft) : crT kept [] T = T := by
  unfold crT
  have : crF kept [] = id := by funext t; rfl
  rw [this, List.map_id]
theorem crT_get {kept : Nat → Bool} {ss : List (Nm × Nat × Nat)} {T : List Ft} {i : Nat} {t : Ft} (h : T[i]? = some t) : (crT kept ss T)[i]? = some (crF kept ss t) := by
  unfold crT
  rw [List.getElem?_map, h]
  rfl
theorem crT_at {kept : Nat → Bool} {ss : List (Nm × Nat × Nat)} {T : List Ft} {j : Nat} (h : j < (crT kept ss T).length) (h' : j < T.length) : (crT kept ss T)[j] = crF kept ss T[j] := by simp [crT]
theorem crT_snoc {kept : Nat → Bool} {ss : List (Nm × Nat × Nat)} {s : Nm × Nat × Nat} {T : List Ft} (hp : T.Pairwise fun a b => a.nm ≠ b.nm) {i : Nat} {t : Ft} (h : T[i]? = some t) (hn : t.nm = s.1) :
    crT kept (ss ++ [s]) T = (crT kept ss T).set i ⟨t.nm, if kept ss.length = true then (crF kept ss t).b else zeroR (crF kept ss t).b s.2.1 s.2.2, if kept ss.length = true then s.2.2 else (crF kept ss t).su, t.g, t.A, t.c⟩ := by
  have hil := (List.getElem?_eq_some_iff.1 h).1
  apply List.ext_getElem (by simp [crT])
  intro j h1 h2
  have hj : j < T.length := by simpa [crT] using h1
  rw [List.getElem_set]
  split
  · rename_i e
    subst e
    obtain ⟨_, hte⟩ := List.getElem?_eq_some_iff.1 h
    rw [crT_at h1 hj, hte]
    unfold crF
    rw [stF_snoc, Nat.zero_add]
    unfold stP
    rw [if_pos (show (s.1 == t.nm) = true by simp [hn])]
    split <;> rfl
  · rename_i e
    have hne : s.1 ≠ T[j].nm := by
      have hp := List.pairwise_iff_getElem.1 hp
      obtain ⟨_, hte⟩ := List.getElem?_eq_some_iff.1 h
      rw [← hn]
      rcases Nat.lt_or_gt_of_ne e with h9 | h9
      · have := hp i j hil hj h9; rw [hte] at this; exact this
      · have := hp j i hj hil h9; rw [hte] at this; exact fun x => this x.symm
    rw [crT_at h1 hj, crT_at (by simpa [crT] using hj) hj]
    unfold crF
    rw [stF_snoc]
    have hb : (s.1 == T[j].nm) = false := beq_eq_false_iff_ne.2 hne
    unfold stP
    rw [if_neg (by rw [hb]; simp)]
theorem Fi.base {d : Fd} {T : List Ft} (h : Fi d T) {t : Ft} (ht : t ∈ T) : posT T t.nm = t.su ∧ t.su + (pcs d.P t.nm).length = t.b.length := by
  refine ⟨posT_find (find_name h.names ht), ?_⟩
  obtain ⟨o1, o2, _⟩ := h.ok t ht
  have := congrArg List.length o2
  rw [List.length_append, List.length_take] at this
  omega
theorem pcs_take_le (P : List (Nm × List UInt8)) (n : Nm) (k : Nat) : (pcs (P.take k) n).length ≤ (pcs P n).length := by
  conv => rhs; rw [← List.take_append_drop k P, pcs_append, List.length_append]
  omega
theorem crF_len {d : Fd} {T : List Ft} (h : Fi d T) {t : Ft} (ht : t ∈ T) (kept : Nat → Bool) (k : Nat) : (crF kept ((spans (posT T) d.P).take k) t).b.length = t.b.length ∧ (crF kept ((spans (posT T) d.P).take k) t).su ≤ t.b.length := by
  obtain ⟨b1, b2⟩ := h.base ht
  have := pcs_take_le d.P t.nm k
  unfold crF
  rw [← spans_take]
  exact stF_len (d.P.take k) (posT T) 0 t.b t.su (h.ok t ht).1 (by rw [b1]; omega)
theorem pcL_get {d : Fd} {T : List Ft} {k : Nat} {s : Nm × Nat × Nat} (h : (spans (posT T) d.P)[k]? = some s) : (pcL T d.P)[k]? = some ⟨gT T s.1, s.2.1, s.2.2⟩ := by
  unfold pcL
  rw [List.getElem?_map, h]
  rfl
/-- the k-th piece, and its file -/
theorem Fi.piece {d : Fd} {T : List Ft} (h : Fi d T) {k : Nat} (hk : k < d.P.length) : ∃ (s : Nm × Nat × Nat) (p : Nm × List UInt8) (i : Nat) (t : Ft), (spans (posT T) d.P)[k]? = some s ∧ d.P[k]? = some p ∧ p.1 = s.1 ∧ s.2.2 = s.2.1 + p.2.length ∧ s.2.2 ≤ t.b.length ∧ T[i]? = some t ∧ t.nm = s.1 ∧ gT T s.1 = t.g := by
  obtain ⟨s, hs⟩ : ∃ s, (spans (posT T) d.P)[k]? = some s := ⟨_, List.getElem?_eq_getElem (by rw [spans_len]; exact hk)⟩
  obtain ⟨p, h1, h2, h3, h4, h5⟩ := spans_in d.P _ k s hs
  obtain ⟨t, ht, e⟩ := h.pn p (List.mem_of_getElem? h1)
  have htn : t.nm = s.1 := e.trans h2
  obtain ⟨i, hi⟩ := List.getElem?_of_mem ht
  refine ⟨s, p, i, t, hs, h1, h2, h3, ?_, hi, htn, ?_⟩
  · obtain ⟨b1, b2⟩ := h.base ht
    rw [← htn, b1] at h5
    omega
  · rw [← htn]
    exact gT_find (find_name h.names ht)
theorem take_snoc_get {α : Type} {l : List α} {k : Nat} {x : α} (h : l[k]? = some x) : l.take (k + 1) = l.take k ++ [x] := by
  rw [List.take_add_one, h]
  rfl
/-- how many bytes are sure at the end -/
def finS (kept : Nat → Bool) (torn : Int) (ss : List (Nm × Nat × Nat)) (t : Ft) : Nat :=
  match ss[(lastK kept ss.length).toNat]? with
  | none => (crF kept ss t).su
  | some s => if 0 ≤ lastK kept ss.length ∧ 0 ≤ torn ∧ torn < s.2.2 - s.2.1 ∧ s.1 = t.nm then s.2.1 + torn.toNat else (crF kept ss t).su
theorem Fi.fin {d : Fd} {T : List Ft} (h : Fi d T) {t : Ft} (ht : t ∈ T) (kept : Nat → Bool) (torn : Int) :
    (crF kept (spans (posT T) d.P) t).b.take (finS kept torn (spans (posT T) d.P) t) = crashF kept (lastK kept d.P.length) torn t.nm d.P 0 (t.b.take t.su) [] := by
  obtain ⟨b1, b2⟩ := h.base ht
  obtain ⟨o1, o2, _⟩ := h.ok t ht
  have hl1 : (t.b.take t.su).length = t.su := by rw [List.length_take]; omega
  have hpos : posT T t.nm = (t.b.take t.su ++ []).length := by rw [List.append_nil, hl1]; exact b1
  have hb : t.b.take t.su ++ [] ++ pcs d.P t.nm = t.b := by rw [List.append_nil]; exact o2.symm
  have hlen := spans_len d.P (posT T)
  have hsim := crash_sim (kept := kept) (n := t.nm) (last := lastK kept d.P.length) (torn := torn) d.P (posT T) 0 (t.b.take t.su) [] hpos
  rw [hb, hl1] at hsim
  unfold finS
  rw [hlen]
  cases hL : (spans (posT T) d.P)[(lastK kept d.P.length).toNat]? with
  | none =>
    refine hsim (fun k p hk hl _ _ => ?_)
    rw [Nat.zero_add] at hl
    rw [← hl, Int.toNat_natCast] at hL
    have := List.getElem?_eq_none_iff.1 hL
    rw [hlen] at this
    have := (List.getElem?_eq_some_iff.1 hk).1
    omega
  | some s =>
    obtain ⟨p, h1, h2, h3, h4, h5⟩ := spans_in d.P _ _ s hL
    show (crF kept _ t).b.take (if _ then _ else _) = _
    split
    · rename_i hc
      obtain ⟨c1, c2, c3, c4⟩ := hc
      have e : ((0 + (lastK kept d.P.length).toNat : Nat) : Int) = lastK kept d.P.length := by omega
      obtain ⟨k1, k2⟩ := lastK_is kept d.P.length (lastK kept d.P.length).toNat (by omega)
      have := crash_torn (kept := kept) (n := t.nm) (last := lastK kept d.P.length) c2 d.P (posT T) 0 (t.b.take t.su) [] _ p s hpos h1 hL e (by rw [Nat.zero_add]; exact k1) (h2.trans c4) (by omega) (fun j a c => by
        cases hj : kept j with
        | false => rfl
        | true =>
          have := lastK_ge kept d.P.length j hj (by omega)
          omega)
      rw [hb, hl1] at this
      exact this
    · rename_i hc
      refine hsim (fun k q hk hl hq ht2 => hc ?_)
      rw [Nat.zero_add] at hl
      have ek : (lastK kept d.P.length).toNat = k := by omega
      rw [ek, hk] at h1
      injection h1 with h1
      subst h1
      exact ⟨by omega, ht2.1, by omega, by rw [← h2, hq]⟩

end Go.Proofs.YtiogckgchlnldaaGreat

/- Layer 8: Crash: the data, second part. -/
set_option linter.unusedSimpArgs false
set_option linter.unusedVariables false
namespace Go.Proofs.YtiogckgchlnldaaGreat
open Go.RowKit Go.Maps Go.ChangeMaps Go.MapKept Go.WideMaps
set_option maxRecDepth 100000

/-- a file ahead of leave, and behind it -/
def finF (kept : Nat → Bool) (torn : Int) (ss : List (Nm × Nat × Nat)) (t : Ft) : Ft := ⟨t.nm, (crF kept ss t).b, finS kept torn ss t, t.g, t.A, t.c⟩
def lvF (kept : Nat → Bool) (torn : Int) (ss : List (Nm × Nat × Nat)) (t : Ft) : Ft := ⟨t.nm, (crF kept ss t).b.take (finS kept torn ss t), finS kept torn ss t, t.g, t.A, finS kept torn ss t⟩
def mixT (kept : Nat → Bool) (torn : Int) (ss : List (Nm × Nat × Nat)) (left : Lit → Bool) (T : List Ft) : List Ft := T.map fun t => if left (.string t.nm) = true then finF kept torn ss t else lvF kept torn ss t
section
variable {kept : Nat → Bool} {torn : Int} {ss : List (Nm × Nat × Nat)} {T : List Ft}
theorem finS_no (h : ∀ s, ss[(lastK kept ss.length).toNat]? = some s → ¬ (0 ≤ lastK kept ss.length ∧ 0 ≤ torn ∧ torn < s.2.2 - s.2.1)) (t : Ft) : finS kept torn ss t = (crF kept ss t).su := by
  unfold finS
  cases hs : ss[(lastK kept ss.length).toNat]? with
  | none => rfl
  | some s =>
    show (if _ then _ else _) = _
    rw [if_neg (fun e => h s hs ⟨e.1, e.2.1, e.2.2.1⟩)]
theorem fin_no (h : ∀ s, ss[(lastK kept ss.length).toNat]? = some s → ¬ (0 ≤ lastK kept ss.length ∧ 0 ≤ torn ∧ torn < s.2.2 - s.2.1)) : T.map (finF kept torn ss) = crT kept ss T := by
  unfold crT
  apply List.map_congr_left
  intro t _
  unfold finF
  rw [finS_no h]
  rfl
theorem fin_yes {k : Nat} {s : Nm × Nat × Nat} (hs : ss[k]? = some s) (hl : lastK kept ss.length = (k : Int)) (h0 : 0 ≤ torn) (h1 : torn < s.2.2 - s.2.1) (hp : T.Pairwise fun a b => a.nm ≠ b.nm) {i : Nat} {t : Ft} (hi : T[i]? = some t) (hn : t.nm = s.1) :
    T.map (finF kept torn ss) = (crT kept ss T).set i ⟨t.nm, (crF kept ss t).b, s.2.1 + torn.toNat, t.g, t.A, t.c⟩ := by
  have hil := (List.getElem?_eq_some_iff.1 hi).1
  have hS : ∀ u, finS kept torn ss u = if s.1 = u.nm then s.2.1 + torn.toNat else (crF kept ss u).su := fun u => by
    unfold finS
    rw [hl, Int.toNat_natCast, hs]
    show (if _ then _ else _) = _
    by_cases e : s.1 = u.nm
    · rw [if_pos ⟨by omega, h0, h1, e⟩, if_pos e]
    · rw [if_neg (fun x => e x.2.2.2), if_neg e]
  apply List.ext_getElem (by simp [crT])
  intro j h2 h3
  have hj : j < T.length := by simpa using h2
  rw [List.getElem_map, List.getElem_set]
  split
  · rename_i e
    subst e
    obtain ⟨_, hte⟩ := List.getElem?_eq_some_iff.1 hi
    rw [hte]
    unfold finF
    rw [hS, if_pos hn.symm]
  · rename_i e
    have hne : s.1 ≠ T[j].nm := by
      have hp := List.pairwise_iff_getElem.1 hp
      obtain ⟨_, hte⟩ := List.getElem?_eq_some_iff.1 hi
      rw [← hn]
      rcases Nat.lt_or_gt_of_ne e with h9 | h9
      · have := hp i j hil hj h9; rw [hte] at this; exact this
      · have := hp j i hj hil h9; rw [hte] at this; exact fun x => this x.symm
    rw [crT_at (by simpa [crT] using hj) hj]
    unfold finF
    rw [hS, if_neg hne]
    rfl
theorem mix_all {left : Lit → Bool} (h : ∀ t ∈ T, left (.string t.nm) = true) : mixT kept torn ss left T = T.map (finF kept torn ss) := by
  unfold mixT
  apply List.map_congr_left
  intro t ht
  rw [if_pos (h t ht)]
theorem mix_none {left : Lit → Bool} (h : ∀ kl, left kl = false) : mixT kept torn ss left T = T.map (lvF kept torn ss) := by
  unfold mixT
  apply List.map_congr_left
  intro t ht
  rw [if_neg (by rw [h]; simp)]
theorem mix_get {left : Lit → Bool} {i : Nat} {t : Ft} (hi : T[i]? = some t) (hl : left (.string t.nm) = true) : (mixT kept torn ss left T)[i]? = some (finF kept torn ss t) := by
  unfold mixT
  rw [List.getElem?_map, hi]
  show some (if _ then _ else _) = _
  rw [if_pos hl]
theorem mix_step {left : Lit → Bool} (hp : T.Pairwise fun a b => a.nm ≠ b.nm) {i : Nat} {t : Ft} (hi : T[i]? = some t) : mixT kept torn ss (fun z => left z && !z.sameKey (.string t.nm)) T = (mixT kept torn ss left T).set i (lvF kept torn ss t) := by
  have hil := (List.getElem?_eq_some_iff.1 hi).1
  unfold mixT
  apply List.ext_getElem (by simp)
  intro j h2 h3
  have hj : j < T.length := by simpa using h2
  rw [List.getElem_map, List.getElem_set]
  by_cases e : i = j
  · rw [if_pos e]
    subst e
    obtain ⟨_, hte⟩ := List.getElem?_eq_some_iff.1 hi
    rw [hte, if_neg (by show ¬ (left (.string t.nm) && !(Lit.string t.nm).sameKey (.string t.nm)) = true; rw [sameS]; simp)]
  · rw [if_neg e]
    have hne : T[j].nm ≠ t.nm := by
      have hp := List.pairwise_iff_getElem.1 hp
      obtain ⟨_, hte⟩ := List.getElem?_eq_some_iff.1 hi
      rcases Nat.lt_or_gt_of_ne e with h9 | h9
      · have := hp i j hil hj h9; rw [hte] at this; exact fun x => this x.symm
      · have := hp j i hj hil h9; rw [hte] at this; exact this
    rw [List.getElem_map]
    have hb : (T[j].nm == t.nm) = false := beq_eq_false_iff_ne.2 hne
    show (if (left (.string T[j].nm) && !(Lit.string T[j].nm).sameKey (.string t.nm)) = true then _ else _) = _
    rw [sameS, hb]
    simp
theorem ranges_tou {w w' : World} {F : Nat → Prop} {b r n cnt : Nat} {D : DataW Unit} {left : Lit → Bool} (h : w.ranges Tryz.prog FKT ptrE b r n D left cnt) (t : Tou F w w') (hb : ¬ F b) (hr : ¬ F r) : w'.ranges Tryz.prog FKT ptrE b r n D left cnt := by
  have h1 := h.owns.lt
  have h2 := h.lt
  obtain ⟨es, clock, since, seen, c0, hb0, G, hs, hD, hr0, rest⟩ := h
  exact ⟨es, clock, since, seen, c0, (t.block b h1 hb).trans hb0, G, hs, hD, (t.block r h2 hr).trans hr0, rest⟩
/-- the data behind a crash -/
theorem Fi.crashd {d : Fd} {T : List Ft} (h : Fi d T) (hss : ss = spans (posT T) d.P) : Fi (crashD d kept torn) (T.map (lvF kept torn ss)) := by
  have hlen : ∀ t ∈ T, (crF kept ss t).b.length = t.b.length ∧ (crF kept ss t).su ≤ t.b.length := fun t ht => by
    have := crF_len h ht kept d.P.length
    rw [List.take_of_length_le (by rw [spans_len]; exact Nat.le_refl _), ← hss] at this
    exact this
  have hfin := fun t ht => h.fin (t := t) ht kept torn
  rw [← hss] at hfin
  have htk : ∀ t : Ft, (lvF kept torn ss t).b.take (lvF kept torn ss t).su = (lvF kept torn ss t).b := fun t => by
    show ((crF kept ss t).b.take (finS kept torn ss t)).take (finS kept torn ss t) = (crF kept ss t).b.take (finS kept torn ss t)
    rw [List.take_take, Nat.min_self]
  have hle : ∀ t ∈ T, finS kept torn ss t ≤ t.b.length := fun t ht => by
    unfold finS
    cases hs : ss[(lastK kept ss.length).toNat]? with
    | none => exact (hlen t ht).2
    | some s =>
      show (if _ then _ else _) ≤ _
      split
      · rename_i hc
        rw [hss] at hs
        obtain ⟨p, q1, q2, q3, q4, q5⟩ := spans_in d.P _ _ s hs
        obtain ⟨b1, b2⟩ := h.base ht
        rw [hc.2.2.2, b1] at q5
        have := hc.2.2.1
        have := hc.2.1
        show s.2.1 + torn.toNat ≤ t.b.length
        omega
      · exact (hlen t ht).2
  have hF : (T.map (lvF kept torn ss)).map (fun t => (t.nm, t.b.take t.su)) = (crashD d kept torn).F := by
    show _ = d.F.map _
    rw [← h.F, List.map_map, List.map_map]
    apply List.map_congr_left
    intro t ht
    show ((lvF kept torn ss t).nm, (lvF kept torn ss t).b.take (lvF kept torn ss t).su) = _
    rw [htk]
    show (t.nm, (crF kept ss t).b.take (finS kept torn ss t)) = _
    rw [hfin t ht]
    rfl
  have hok : ∀ x ∈ T.map (lvF kept torn ss), x.su ≤ x.b.length ∧ x.b = x.b.take x.su ++ pcs [] x.nm ∧ x.nm.length ≤ 16 := fun x hx => by
    obtain ⟨t, ht, rfl⟩ := List.mem_map.1 hx
    rw [htk, pcs_nil, List.append_nil]
    refine ⟨?_, rfl, (h.ok t ht).2.2⟩
    show finS kept torn ss t ≤ ((crF kept ss t).b.take (finS kept torn ss t)).length
    rw [List.length_take, (hlen t ht).1]
    have := hle t ht
    omega
  refine ⟨hF, ?_, hok, (fun p hp => by cases hp), Nat.zero_le _, ?_, ?_⟩
  · show upN (d.F.map _)
    unfold upN
    rw [List.pairwise_map]
    exact h.up
  · rw [used_T (d := crashD d kept torn) hF (fun x hx => (hok x hx).2.1), List.map_map]
    have h1 := h.us
    rw [h.used] at h1
    refine Nat.le_trans ?_ h1
    have : ∀ l : List Ft, (∀ t ∈ l, t ∈ T) → (l.map ((fun t => t.b.length) ∘ lvF kept torn ss)).sum ≤ (l.map fun t => t.b.length).sum := fun l => by
      induction l with
      | nil => intro _; exact Nat.le_refl _
      | cons x xs ih =>
        intro hx
        rw [List.map_cons, List.sum_cons, List.map_cons, List.sum_cons]
        have h2 := ih (fun t ht => hx t (List.mem_cons_of_mem _ ht))
        have h3 : ((crF kept ss x).b.take (finS kept torn ss x)).length ≤ x.b.length := by
          rw [List.length_take, (hlen x (hx x List.mem_cons_self)).1]
          omega
        exact Nat.add_le_add h3 h2
    exact this T (fun t ht => ht)
  · rw [List.length_map]; exact h.fl
end

end Go.Proofs.YtiogckgchlnldaaGreat

/- Layer 8: Crash. -/
set_option linter.unusedSimpArgs false
set_option linter.unusedVariables false
namespace Go.Proofs.YtiogckgchlnldaaGreat
open Go.RowKit Go.Maps Go.ChangeMaps Go.MapKept Go.WideMaps
set_option maxRecDepth 100000

def Bo (w : World) (A : Option Addr) (l : List Bool) : Prop := ∀ i x, l[i]? = some x → ∃ p o, A = some ⟨p, o, none⟩ ∧ w.cell? ⟨p, o + i, none⟩ = some (.bool x)
def kpt (kp : List Bool) (j : Nat) : Bool := kp.getD j false
theorem kpt_out {kp : List Bool} {j : Nat} (h : kp.length ≤ j) : kpt kp j = false := by unfold kpt; rw [List.getD_eq_getElem?_getD, List.getElem?_eq_none h]; rfl
theorem kpt_in {kp : List Bool} {j : Nat} {x : Bool} (h : kp[j]? = some x) : kpt kp j = x := by unfold kpt; rw [List.getD_eq_getElem?_getD, h]; rfl

theorem step_clearF {ops : Array Oper} {o : Oper} {a : Act} {w : World} {K : Act → World → Prop} {Q : Exit → Act → World → Prop} {E : Prop} (hgd : o.guard = none) (x : Operand)
    (ho : o.op = .call { callee := .builtin .clear, args := #[x], argTypes := #[22] }) (v : Value) (hx : a.eval x = v) (w' : World) (hrun : ∀ ty, (Builtin.clear_ #[22] ty #[v]).run Tryz.prog w = .ok (.tuple #[]) w')
    (hK : K (a.put o.dst (.tuple #[])) w') : if Region.wanted o (yielded ops a.tmps) = true then Oper.wp Tryz.prog o a w K Q else E := by
  have hw : Region.wanted o (yielded ops a.tmps) = true := by simp [Region.wanted, hgd]
  rw [if_pos hw]
  unfold Oper.wp
  simp [execOp, ho, resolve, invoke, builtin, hx, hrun, Result.andThen]
  exact hK
/-- what is cleared -/
def clV : Option Addr → Nat → Nat → Nat → Value
  | none, fr, n, c => .slice none n (c - fr)
  | some a, fr, n, c => .slice (if c = fr then some a else some (a.add fr)) n (c - fr)
theorem clV_some (a : Addr) (fr n c : Nat) : clV (some a) fr n c = .slice (if c = fr then some a else some (a.add fr)) n (c - fr) := rfl
theorem OwnF.clear2 {w : World} {A : Option Addr} {n c : Nat} {l : List UInt8} (h : OwnF w (.slice A n c) l) (hn : n = l.length) (fr to_ m : Nat) (h1 : fr ≤ to_) (h2 : to_ ≤ l.length) (hc : l.length ≤ c) (hm : m = to_ - fr) :
    ∃ w', (∀ ty, (Builtin.clear_ #[22] ty #[clV A fr m c]).run Tryz.prog w = .ok (.tuple #[]) w') ∧ OwnF w' (.slice A n c) (zeroR l fr to_) ∧ w.grownBy w' (Value.slice A n c).ownBlock := by
  subst hm; subst hn
  cases A with
  | none =>
    have : l = [] := by
      rcases h with ⟨_, e⟩ | ⟨g', cap, cur, e0, _⟩
      · exact e
      · cases e0
    subst this
    have h3 : to_ = 0 := by simpa using h2
    have h4 : fr = 0 := by omega
    subst h3; subst h4
    exact ⟨w, fun ty => by simp [clV, Builtin.clear_, run_underlying Tryz.underlying22], by rw [zeroR_same]; exact h, World.grownBy.refl _ _⟩
  | some ad =>
    obtain ⟨g, rfl⟩ : ∃ g, ad = ⟨g, 0, none⟩ := by
      rcases h with ⟨e0, _⟩ | ⟨g', cap, cur, e0, _⟩
      · cases e0
      · injection e0 with e1 _ _
        injection e1 with e1
        exact ⟨g', e1⟩
    by_cases h0 : to_ = fr
    · subst h0
      refine ⟨w, fun ty => ?_, by rw [zeroR_same]; exact h, World.grownBy.refl _ _⟩
      rw [clV_some, Nat.sub_self]
      split
      · exact run_clear_none w ty _ _
      · exact run_clear_none w ty _ _
    · have hcf : ¬ c = fr := by omega
      obtain ⟨w', r, h5, h6⟩ := h.clear fr to_ h1 h2 (c - fr) 0
      refine ⟨w', fun ty => ?_, h5, h6⟩
      have e : ∀ ty ty', (Builtin.clear_ #[22] ty #[.slice (some ⟨g, fr, none⟩) (to_ - fr) (c - fr)]).run Tryz.prog w = (Builtin.clear_ #[22] ty' #[.slice (some ⟨g, fr, none⟩) (to_ - fr) (c - fr)]).run Tryz.prog w := fun _ _ => rfl
      rw [clV_some, if_neg hcf]
      have e2 : (⟨g, 0, none⟩ : Addr).add fr = ⟨g, fr, none⟩ := by
        unfold Addr.add
        split
        · rename_i h9; rw [h9]
        · simp
      rw [e2, e ty 0]
      exact r

section
variable {B : Nat} {w0 W W2 : World} {us : List Kt} {K0 K1 K2 : Kt} {T : List Ft} {kept : Nat → Bool} {ss : List (Nm × Nat × Nat)} {s : Nm × Nat × Nat} {i k : Nat} {t : Ft}
theorem crash_zero (S1 : Sep B w0 W (K0 :: K1 :: K2 :: ((crT kept (ss.take k) T).map thF ++ us))) (hp : T.Pairwise fun a b => a.nm ≠ b.nm) (p1 : ss[k]? = some s) (p6 : T[i]? = some t) (p7 : t.nm = s.1) (hkk : kept k = false) {n : Nat} (hn : n = (crF kept (ss.take k) t).b.length) (h1 : s.2.1 ≤ s.2.2) (h2 : s.2.2 ≤ n)
    (f5 : OwnF W2 (.slice t.A n t.c) (zeroR (crF kept (ss.take k) t).b s.2.1 s.2.2)) (hg2 : W.grownBy W2 (Value.slice t.A n t.c).ownBlock) : Sep B w0 W2 (K0 :: K1 :: K2 :: ((crT kept (ss.take (k + 1)) T).map thF ++ us)) := by
  have hkl : (ss.take k).length = k := by rw [List.length_take]; have := (List.getElem?_eq_some_iff.1 p1).1; omega
  have hv : (⟨t.nm, zeroR (crF kept (ss.take k) t).b s.2.1 s.2.2, (crF kept (ss.take k) t).su, t.g, t.A, t.c⟩ : Ft).v = .slice t.A n t.c := by
    unfold Ft.v
    rw [show (zeroR (crF kept (ss.take k) t).b s.2.1 s.2.2).length = n by rw [zeroR_len h1 (by omega)]; exact hn.symm]
  have hv0 : (crF kept (ss.take k) t).v = .slice t.A n t.c := by rw [hn]; rfl
  obtain ⟨f1, f2, f3⟩ := S1.at_ (i + 3) (getT (crT_get p6))
  rw [hv0] at f2 f3
  have hcs : (⟨t.nm, zeroR (crF kept (ss.take k) t).b s.2.1 s.2.2, (crF kept (ss.take k) t).su, t.g, t.A, t.c⟩ : Ft).cs = (crF kept (ss.take k) t).cs := by
    unfold Ft.cs
    rw [hv, hv0]
  have h := S1.call (t' := thF ⟨t.nm, zeroR (crF kept (ss.take k) t).b s.2.1 s.2.2, (crF kept (ss.take k) t).su, t.g, t.A, t.c⟩) (i + 3) (getT (crT_get p6)) (Tou.of_grown hg2 (fun k e => .inr (by rw [hv0]; exact e))) ⟨by
      rw [hcs]
      exact (hg2.block t.g f1.lt (fun e => f3 e.symm)).trans f1, by rw [hv]; exact f5, by rw [hv]; exact f3⟩ (fun j hj => by
    rcases hj with hj | hj
    · exact .inl (.inl hj)
    · rw [hv] at hj
      exact .inl (.inr (by rw [hv0]; exact hj)))
  rw [setT (crT_get p6)] at h
  rw [take_snoc_get p1, crT_snoc hp p6 p7, hkl, hkk]
  exact h
theorem crash_keep (S1 : Sep B w0 W (K0 :: K1 :: K2 :: ((crT kept (ss.take k) T).map thF ++ us))) (hp : T.Pairwise fun a b => a.nm ≠ b.nm) (p1 : ss[k]? = some s) (p6 : T[i]? = some t) (p7 : t.nm = s.1) (hkk : kept k = true)
    (hW : W.setCell ⟨t.g, 1, none⟩ (.int .i64 (s.2.2 : Nat)) = W2) : Sep B w0 W2 (K0 :: K1 :: K2 :: ((crT kept (ss.take (k + 1)) T).map thF ++ us)) := by
  have hkl : (ss.take k).length = k := by rw [List.length_take]; have := (List.getElem?_eq_some_iff.1 p1).1; omega
  obtain ⟨f1, f2, f3⟩ := S1.at_ (i + 3) (getT (crT_get p6))
  have tt : Tou (fun j => j = t.g) W W2 := by rw [← hW]; exact Tou.set (F := fun j => j = t.g) t.g 1 _ rfl
  have h := S1.call (t' := thF ⟨t.nm, (crF kept (ss.take k) t).b, s.2.2, t.g, t.A, t.c⟩) (i + 3) (getT (crT_get p6)) (tt.mono (fun _ _ e => .inl e)) ⟨by
      have := Blk.sets [(1, .int .i64 (s.2.2 : Nat))] f1
      rw [← hW]
      exact this, f2.kept tt (fun j hj e => by subst e; exact f3 hj), f3⟩ (fun j hj => .inl hj)
  rw [setT (crT_get p6)] at h
  rw [take_snoc_get p1, crT_snoc hp p6 p7, hkl, hkk]
  exact h
end

/-- a block apart that is nothing else's -/
def thI (it : Nat) : Kt := ⟨fun w => it < w.heap.size, fun k => k = it, fun h t _ => Nat.lt_of_lt_of_le h t.size, fun h k e => by subst e; exact h⟩
theorem nmG_lv (kept : Nat → Bool) (torn : Int) (ss : List (Nm × Nat × Nat)) (T : List Ft) : nmG (T.map (lvF kept torn ss)) = nmG T := by
  unfold nmG
  rw [List.map_map]
  rfl
theorem finS_le {d : Fd} {T : List Ft} {kept : Nat → Bool} {torn : Int} {ss : List (Nm × Nat × Nat)} (h : Fi d T) (hss : ss = spans (posT T) d.P) {t : Ft} (ht : t ∈ T) : finS kept torn ss t ≤ (crF kept ss t).b.length ∧ (crF kept ss t).b.length ≤ 200000 := by
  have hlen := crF_len h ht kept d.P.length
  rw [List.take_of_length_le (by rw [spans_len]; exact Nat.le_refl _), ← hss] at hlen
  rw [hlen.1]
  refine ⟨?_, h.blen ht⟩
  unfold finS
  cases hs : ss[(lastK kept ss.length).toNat]? with
  | none => exact hlen.2
  | some s =>
    show (if _ then _ else _) ≤ _
    split
    · rename_i hc
      rw [hss] at hs
      obtain ⟨p, q1, q2, q3, q4, q5⟩ := spans_in d.P _ _ s hs
      obtain ⟨b1, b2⟩ := h.base ht
      rw [hc.2.2.2, b1] at q5
      have := hc.2.2.1
      have := hc.2.1
      show s.2.1 + torn.toNat ≤ t.b.length
      omega
    · exact hlen.2

set_option maxHeartbeats 8000000 in
theorem crash_any {B q room : Nat} {w0 w : World} {ts : List Kt} {d : Fd} (kp : List Bool) (KA : Option Addr) (kc kn : Nat) (hkn : kn = kp.length) (torn : Int) (h : FsI B w0 w q room ts d) (hK : ∀ W, Sep B w0 W ts → Bo W KA kp) (hkl : kn ≤ 1000000) :
    Calls Tryz.prog 35 #[.pointer (some ⟨q, 0, none⟩), .agg #[.slice KA kn kc, .int .i64 torn]] w fun e w' => e = .returned (.tuple #[]) ∧ FsI B w0 w' q room ts (crashD d (kpt kp) torn) := by
  obtain ⟨W0, hW0⟩ : ∃ W0, W0 = w.alloc (.cells #[.slice KA kn kc, .int .i64 torn] 45) := ⟨_, rfl⟩
  obtain ⟨bl, hbl⟩ : ∃ bl, bl = w.heap.size := ⟨_, rfl⟩
  have hba : Below w.heap.size w W0 := by rw [hW0]; exact below_alloc _ _
  have h1 : FsI B w0 W0 q room (thB bl 45 #[.slice KA kn kc, .int .i64 torn] :: ts) d := h.cons hba (by rw [hW0, hbl]; exact Blk.new _ _ _) (fun k e => by rw [show k = bl from e, hbl]; exact Nat.le_refl _)
  obtain ⟨bm, VW, T, hs, hF⟩ := h1
  obtain ⟨np, hnp⟩ : ∃ np, np = d.P.length := ⟨_, rfl⟩
  have hr0 : OwnR W0 0 72 encPc 3 VW (pcL T d.P) := Sep.at_ hs 2 rfl
  obtain ⟨PA, pc, hVW, hpcl, -⟩ := OwnR.row Tryz.eltPc hr0
  rw [pcL_len, ← hnp] at hVW hpcl
  subst hVW
  have hpl : np ≤ 1000000 := by rw [hnp]; exact hF.pl
  have C := fbsays (FsS.bx hs)
  simp only [cellsSay, fsc, Nat.reduceAdd, and_true] at C
  obtain ⟨ss, hss⟩ : ∃ ss, ss = spans (posT T) d.P := ⟨_, rfl⟩
  have hS0 : Sep B w0 W0 (thB q 67 (fsc room bm (.slice PA np pc) d) :: thM bm (nmG T) :: thP (.slice PA np pc) (pcL T d.P) :: ((crT (kpt kp) (ss.take 0) T).map thF ++ (thB bl 45 #[.slice KA kn kc, .int .i64 torn] :: ts))) := by
    rw [List.take_zero, crT_nil]
    exact hs
  have H := Lib.hid (And.intro hS0 (And.intro hF (And.intro hnp (And.intro hss (And.intro hkn hK)))))
  have HW := Lib.hid hW0
  clear hs hF hr0 hS0 hba h hnp hss hkn hK
  go_enter Tryz.func35, Tryz.ntmps35
  go_upto_region 2 with fail
  rw [← hbl, ← hW0]
  clear hW0 hbl
  go_wp2_with fail
  go_loopw [4, 15] (fun s4 s15 wr => ∃ (k : Nat), k ≤ np ∧ s15 = .int .i64 k ∧ s4 = .int .i64 (lastK (kpt kp) k) ∧ Hid (Sep B w0 wr (thB q 67 (fsc room bm (.slice PA np pc) d) :: thM bm (nmG T) :: thP (.slice PA np pc) (pcL T d.P) :: ((crT (kpt kp) (ss.take k) T).map thF ++ (thB bl 45 #[.slice KA kn kc, .int .i64 torn] :: ts))))) (fun _ j _ => np - (intOf j).toNat)
  case atStart => exact ⟨0, Nat.zero_le _, rfl, rfl, Lib.hid H.out.1⟩
  case round =>
    obtain ⟨k, hk, rfl, rfl, HR⟩ := hrel
    by_cases hlt : k < np
    · obtain ⟨s, p, i, t, p1, p2, p3, p4, p5, p6, p7, p8⟩ := H.out.2.1.piece (k := k) (by rw [← H.out.2.2.1]; exact hlt)
      rw [← H.out.2.2.2.1] at p1
      obtain ⟨g, hg⟩ : ∃ g, g = t.g := ⟨_, rfl⟩
      obtain ⟨fr, hfr⟩ : ∃ fr, fr = s.2.1 := ⟨_, rfl⟩
      obtain ⟨to_, hto⟩ : ∃ to_, to_ = s.2.2 := ⟨_, rfl⟩
      have hrow : OwnR wr 0 72 encPc 3 (.slice PA np pc) (pcL T d.P) := Sep.at_ HR.out 2 rfl
      obtain ⟨PA0, pc0, hv0, -, hrw⟩ := OwnR.row Tryz.eltPc hrow
      injection hv0 with hv1 hv2 hv3
      subst hv1
      obtain ⟨pb, po, rfl, hc⟩ := hrw k _ (pcL_get (by rw [← H.out.2.2.2.1]; exact p1))
      rw [p8, ← hg, ← hfr, ← hto] at hc
      have c0 := hc 0 _ rfl
      have c1 := hc 1 _ rfl
      have c2 := hc 2 _ rfl
      simp only [Nat.add_zero] at c0
      have hkl2 : (k : Int) < (np : Int) := by omega
      have hk0 : (0 : Int) ≤ (k : Int) := by omega
      obtain ⟨px, hpx⟩ : ∃ px, px = wr.heap.size := ⟨_, rfl⟩
      obtain ⟨W1, hW1⟩ : ∃ W1, W1 = wr.alloc (.cells #[.pointer (some ⟨g, 0, none⟩), .int .i64 (fr : Nat), .int .i64 (to_ : Nat)] 72) := ⟨_, rfl⟩
      have hb1 : Below wr.heap.size wr W1 := by rw [hW1]; exact below_alloc _ _
      have S1 := HR.out.go hb1
      have hbx : Blk W1 px 72 #[.pointer (some ⟨g, 0, none⟩), .int .i64 (fr : Nat), .int .i64 (to_ : Nat)] := by rw [hW1, hpx]; exact Blk.new _ _ _
      have hbl : Blk W1 bl 45 #[.slice KA kn kc, .int .i64 torn] := S1.get (t := thB bl 45 #[.slice KA kn kc, .int .i64 torn]) (by simp)
      have Cb := fbsays hbl
      have Cx := fbsays hbx
      have htk := List.mem_of_getElem? (crT_get (kept := kpt kp) (ss := ss.take k) p6)
      obtain ⟨f1, f2, f3⟩ := S1.get (t := thF (crF (kpt kp) (ss.take k) t)) (by simp; exact .inr (.inr (.inr (.inl ⟨_, htk, rfl⟩))))
      have hcl := (crF_len H.out.2.1 (List.mem_of_getElem? p6) (kpt kp) k)
      rw [← H.out.2.2.2.1] at hcl
      obtain ⟨tb, htb⟩ : ∃ tb, tb = crF (kpt kp) (ss.take k) t := ⟨_, rfl⟩
      rw [← htb] at f1 f2 f3 hcl
      have htg : tb.g = g := by rw [htb, hg]; rfl
      rw [htg] at f1 f3
      obtain ⟨nb, hnb⟩ : ∃ nb, nb = tb.b.length := ⟨_, rfl⟩
      have Cf := fbsays f1
      simp only [cellsSay, Ft.cs, Ft.v, Nat.reduceAdd, and_true] at Cb Cx Cf
      rw [← hnb] at Cf
      have hS1 : Sep B w0 W1 ts := S1.sub (by
        refine .cons _ (.cons _ (.cons _ ?_))
        exact (List.Sublist.cons _ (List.Sublist.refl _)).trans (List.sublist_append_right _ _))
      have hBo := H.out.2.2.2.2.2 W1 hS1
      have HP := Lib.hid (And.intro p1 (And.intro p2 (And.intro p3 (And.intro p4 (And.intro p5 (And.intro p6 (And.intro p7 (And.intro p8 (And.intro hg (And.intro hfr (And.intro hto (And.intro S1 (And.intro f1 (And.intro f2 (And.intro f3 (And.intro hcl (And.intro htb (And.intro htg (And.intro hnb hBo)))))))))))))))))))
      have HX := Lib.hid (And.intro hpx hW1)
      clear p1 p2 p3 p4 p5 p6 p7 p8 hg hfr hto hrow hrw hc hbl hv2 hv3 hb1 S1 hbx htk f1 f2 f3 hcl htb htg hnb hS1 hBo
      go_upto_region 5 with fail
      rw [← hW1, ← hpx]
      clear hW1 hpx C c0 c1 c2
      cases hkk : kpt kp k with
      | true =>
        have hkin : k < kn := by
          rcases Nat.lt_or_ge k kn with h9 | h9
          · exact h9
          · rw [kpt_out (by rw [← H.out.2.2.2.2.1]; exact h9)] at hkk
            cases hkk
        obtain ⟨x, hx⟩ : ∃ x, kp[k]? = some x := ⟨_, List.getElem?_eq_getElem (by rw [← H.out.2.2.2.2.1]; exact hkin)⟩
        have hxt : x = true := by rw [← kpt_in hx]; exact hkk
        subst hxt
        obtain ⟨kb, ko, rfl, ck⟩ := HP.out.2.2.2.2.2.2.2.2.2.2.2.2.2.2.2.2.2.2.2 k true hx
        have d1 : decide ((kn : Int) ≤ (k : Int)) = false := decide_eq_false (by omega)
        have d1p : ¬ (kn : Int) ≤ (k : Int) := by omega
        have d2 : (k : Int) < (kn : Int) := by omega
        have HKK := Lib.hid hkk
        clear hx hkk
        go_wp2_with fail
        generalize hW2 : World.setCell _ _ _ = W2
        have HW2 := Lib.hid hW2
        clear hW2
        go_roundw
        case measure => simp [intOf]; omega
        case rel =>
          obtain ⟨p1, p2, p3, p4, p5, p6, p7, p8, hg, hfr, hto, S1, -⟩ := HP.out
          have hll : lastK (kpt kp) (k + 1) = (k : Int) := by
            show (if _ then _ else _) = _
            rw [if_pos HKK.out]
          exact ⟨k + 1, by omega, by go_num, by rw [hll], Lib.hid (crash_keep S1 H.out.2.1.names p1 p6 p7 HKK.out (by rw [← hg, ← hto]; exact HW2.out))⟩
      | false =>
        by_cases hout : kn ≤ k
        · have d1 : decide ((kn : Int) ≤ (k : Int)) = true := decide_eq_true (by omega)
          have d1p : (kn : Int) ≤ (k : Int) := by omega
          go_upto_region 6 with fail
          obtain ⟨p1, p2, p3, p4, p5, p6, p7, p8, hg, hfr, hto, S1, f1, f2, f3, hcl, htb, htg, hnb, hBo⟩ := HP.out
          obtain ⟨tA, htA⟩ : ∃ tA, tA = tb.A := ⟨_, rfl⟩
          obtain ⟨tc, htc⟩ : ∃ tc, tc = tb.c := ⟨_, rfl⟩
          have f4 : OwnF W1.drew (.slice tA nb tc) tb.b := by rw [htA, htc, hnb]; exact f2.below (Below.refl _ _).drew
          have hft : fr ≤ to_ := by rw [hfr, hto, p4]; omega
          have htn : to_ ≤ nb := by rw [hto, hnb, hcl.1]; exact p5
          have hntc : nb ≤ tc := by
            rcases f4 with ⟨e0, _⟩ | ⟨g', cap, cur, e0, _, k1, _⟩
            · injection e0 with _ e1 e2; omega
            · injection e0 with _ e1 e2; omega
          obtain ⟨W2, hrun, f5, hg2⟩ := f4.clear2 hnb fr to_ (to_ - fr) hft (by omega) (by omega) rfl
          rw [← htA, ← htc] at Cf
          have HZ := Lib.hid (crash_zero (S1.go (Below.refl _ _).drew) H.out.2.1.names p1 p6 p7 hkk (n := nb) (by rw [← htb]; exact hnb) (by rw [← hfr, ← hto]; exact hft) (by rw [← hto]; exact htn) (by rw [← htb, ← hfr, ← hto]; rw [htA, htc, htb] at f5; rw [← htb] at f5; rw [htb] at f5 ⊢; exact f5) (by rw [htA, htc, htb] at hg2; exact hg2))
          have HLL := Lib.hid (show lastK (kpt kp) (k + 1) = lastK (kpt kp) k by
            show (if _ then _ else _) = _
            rw [if_neg (by rw [hkk]; simp)])
          have i1 : (fr : Int) ≤ (to_ : Int) := by omega
          have i2 : (to_ : Int) ≤ (tc : Int) := by omega
          have i3 : (0 : Int) ≤ (fr : Int) := by omega
          clear p1 p2 p3 p4 p5 p6 p7 p8 hg hfr hto S1 f1 f2 f3 f4 f5 hg2 hcl htb htg hnb hBo htA htc hkk
          cases tA with
          | some ad =>
            simp only [clV] at hrun
            go_region_law (refine step_clearF _ rfl (.tmp 42) rfl _ (by simp [Act.eval, Act.put]; rfl) W2 hrun ?_)
            all_goals
              clear hrun Cf Cb Cx
              go_wp2_with fail
              go_roundw
              case measure => simp [intOf]; omega
              case rel => exact ⟨k + 1, by omega, by go_num, by rw [HLL.out], HZ⟩
          | none =>
            simp only [clV] at hrun
            go_region_law (refine step_clearF _ rfl (.tmp 42) rfl _ (by simp [Act.eval, Act.put]; rfl) W2 hrun ?_)
            all_goals
              clear hrun Cf Cb Cx
              go_wp2_with fail
              go_roundw
              case measure => simp [intOf]; omega
              case rel => exact ⟨k + 1, by omega, by go_num, by rw [HLL.out], HZ⟩
        · obtain ⟨x, hx⟩ : ∃ x, kp[k]? = some x := ⟨_, List.getElem?_eq_getElem (by rw [← H.out.2.2.2.2.1]; omega)⟩
          have hxt : x = false := by rw [← kpt_in hx]; exact hkk
          subst hxt
          obtain ⟨kb, ko, rfl, ck⟩ := HP.out.2.2.2.2.2.2.2.2.2.2.2.2.2.2.2.2.2.2.2 k false hx
          have d1 : decide ((kn : Int) ≤ (k : Int)) = false := decide_eq_false (by omega)
          have d1p : ¬ (kn : Int) ≤ (k : Int) := by omega
          have d2 : (k : Int) < (kn : Int) := by omega
          clear hx
          go_upto_region 6 with fail
          obtain ⟨p1, p2, p3, p4, p5, p6, p7, p8, hg, hfr, hto, S1, f1, f2, f3, hcl, htb, htg, hnb, hBo⟩ := HP.out
          obtain ⟨tA, htA⟩ : ∃ tA, tA = tb.A := ⟨_, rfl⟩
          obtain ⟨tc, htc⟩ : ∃ tc, tc = tb.c := ⟨_, rfl⟩
          have f4 : OwnF W1.drew (.slice tA nb tc) tb.b := by rw [htA, htc, hnb]; exact f2.below (Below.refl _ _).drew
          have hft : fr ≤ to_ := by rw [hfr, hto, p4]; omega
          have htn : to_ ≤ nb := by rw [hto, hnb, hcl.1]; exact p5
          have hntc : nb ≤ tc := by
            rcases f4 with ⟨e0, _⟩ | ⟨g', cap, cur, e0, _, k1, _⟩
            · injection e0 with _ e1 e2; omega
            · injection e0 with _ e1 e2; omega
          obtain ⟨W2, hrun, f5, hg2⟩ := f4.clear2 hnb fr to_ (to_ - fr) hft (by omega) (by omega) rfl
          rw [← htA, ← htc] at Cf
          have HZ := Lib.hid (crash_zero (S1.go (Below.refl _ _).drew) H.out.2.1.names p1 p6 p7 hkk (n := nb) (by rw [← htb]; exact hnb) (by rw [← hfr, ← hto]; exact hft) (by rw [← hto]; exact htn) (by rw [← htb, ← hfr, ← hto]; rw [htA, htc, htb] at f5; rw [← htb] at f5; rw [htb] at f5 ⊢; exact f5) (by rw [htA, htc, htb] at hg2; exact hg2))
          have HLL := Lib.hid (show lastK (kpt kp) (k + 1) = lastK (kpt kp) k by
            show (if _ then _ else _) = _
            rw [if_neg (by rw [hkk]; simp)])
          have i1 : (fr : Int) ≤ (to_ : Int) := by omega
          have i2 : (to_ : Int) ≤ (tc : Int) := by omega
          have i3 : (0 : Int) ≤ (fr : Int) := by omega
          clear p1 p2 p3 p4 p5 p6 p7 p8 hg hfr hto S1 f1 f2 f3 f4 f5 hg2 hcl htb htg hnb hBo htA htc hkk
          cases tA with
          | some ad =>
            simp only [clV] at hrun
            go_region_law (refine step_clearF _ rfl (.tmp 42) rfl _ (by simp [Act.eval, Act.put]; rfl) W2 hrun ?_)
            all_goals
              clear hrun Cf Cb Cx
              go_wp2_with fail
              go_roundw
              case measure => simp [intOf]; omega
              case rel => exact ⟨k + 1, by omega, by go_num, by rw [HLL.out], HZ⟩
          | none =>
            simp only [clV] at hrun
            go_region_law (refine step_clearF _ rfl (.tmp 42) rfl _ (by simp [Act.eval, Act.put]; rfl) W2 hrun ?_)
            all_goals
              clear hrun Cf Cb Cx
              go_wp2_with fail
              go_roundw
              case measure => simp [intOf]; omega
              case rel => exact ⟨k + 1, by omega, by go_num, by rw [HLL.out], HZ⟩
    · have hkk : ¬ (k : Int) < (np : Int) := by omega
      have hkl2 : (ss.take k) = ss := List.take_of_length_le (by rw [H.out.2.2.2.1, spans_len, ← H.out.2.2.1]; omega)
      have hknp : k = ss.length := by rw [H.out.2.2.2.1, spans_len, ← H.out.2.2.1]; omega
      have S0 := HR.out
      rw [hkl2] at S0
      obtain ⟨la, hla⟩ : ∃ la, la = lastK (kpt kp) k := ⟨_, rfl⟩
      rw [← hla]
      rw [hknp] at hla
      have HS := Lib.hid (And.intro S0 hla)
      clear hkl2 hknp S0 hla HR HW
      go_upto_if 52 with fail
      go_cut [52] from 53 to 81 (fun s52 wx => Hid (Sep B w0 wx (thB q 67 (fsc room bm (.slice PA np pc) d) :: thM bm (nmG T) :: thP (.slice PA np pc) (pcL T d.P) :: ((T.map (finF (kpt kp) torn ss)).map thF ++ (thB bl 45 #[.slice KA kn kc, .int .i64 torn] :: ts)))))
      case first =>
        by_cases hla0 : 0 ≤ la
        · obtain ⟨kl, rfl⟩ : ∃ kl : Nat, la = (kl : Int) := ⟨la.toNat, by omega⟩
          obtain ⟨kk1, kk2⟩ := lastK_is (kpt kp) _ kl HS.out.2.symm
          have hklnp : kl < np := by rw [H.out.2.2.2.1, spans_len, ← H.out.2.2.1] at kk2; exact kk2
          obtain ⟨s, p, i, t, p1, p2, p3, p4, p5, p6, p7, p8⟩ := H.out.2.1.piece (k := kl) (by rw [← H.out.2.2.1]; exact hklnp)
          rw [← H.out.2.2.2.1] at p1
          obtain ⟨g, hg⟩ : ∃ g, g = t.g := ⟨_, rfl⟩
          obtain ⟨fr, hfr⟩ : ∃ fr, fr = s.2.1 := ⟨_, rfl⟩
          obtain ⟨to_, hto⟩ : ∃ to_, to_ = s.2.2 := ⟨_, rfl⟩
          have hrow : OwnR wr 0 72 encPc 3 (.slice PA np pc) (pcL T d.P) := Sep.at_ HS.out.1 2 rfl
          obtain ⟨PA0, pc0, hv0, -, hrw⟩ := OwnR.row Tryz.eltPc hrow
          injection hv0 with hv1 hv2 hv3
          subst hv1
          obtain ⟨pb, po, rfl, hc⟩ := hrw kl _ (pcL_get (by rw [← H.out.2.2.2.1]; exact p1))
          rw [p8, ← hg, ← hfr, ← hto] at hc
          have c0 := hc 0 _ rfl
          have c1 := hc 1 _ rfl
          have c2 := hc 2 _ rfl
          simp only [Nat.add_zero] at c0
          have hkl2 : (kl : Int) < (np : Int) := by omega
          have hk0 : (0 : Int) ≤ (kl : Int) := by omega
          have d0 : decide ((0 : Int) ≤ (kl : Int)) = true := decide_eq_true hk0
          have Cq := fbsays (HS.out.1.blk 0)
          obtain ⟨px, hpx⟩ : ∃ px, px = wr.heap.size := ⟨_, rfl⟩
          obtain ⟨W1, hW1⟩ : ∃ W1, W1 = wr.alloc (.cells #[.pointer (some ⟨g, 0, none⟩), .int .i64 (fr : Nat), .int .i64 (to_ : Nat)] 72) := ⟨_, rfl⟩
          have hb1 : Below wr.heap.size wr W1 := by rw [hW1]; exact below_alloc _ _
          have S1 := HS.out.1.go hb1
          have hbx : Blk W1 px 72 #[.pointer (some ⟨g, 0, none⟩), .int .i64 (fr : Nat), .int .i64 (to_ : Nat)] := by rw [hW1, hpx]; exact Blk.new _ _ _
          have hbl : Blk W1 bl 45 #[.slice KA kn kc, .int .i64 torn] := S1.get (t := thB bl 45 #[.slice KA kn kc, .int .i64 torn]) (by simp)
          have Cb := fbsays hbl
          have Cx := fbsays hbx
          obtain ⟨f1, f2, f3⟩ := S1.at_ (i + 3) (getT (crT_get p6))
          have f1' : Blk W1 g 69 (crF (kpt kp) ss t).cs := by rw [hg]; exact f1
          have Cf := fbsays f1'
          simp only [cellsSay, fsc, Ft.cs, Ft.v, Nat.reduceAdd, and_true] at Cb Cx Cf Cq
          have hft : fr ≤ to_ := by rw [hfr, hto, p4]; omega
          have htl : to_ ≤ 200000 := by rw [hto]; exact Nat.le_trans p5 (H.out.2.1.blen (List.mem_of_getElem? p6))
          have hw : wrap64 ((to_ : Int) - (fr : Int)) = (to_ : Int) - (fr : Int) := by unfold wrap64; omega
          have HP := Lib.hid (And.intro p1 (And.intro p6 (And.intro p7 (And.intro hg (And.intro hfr (And.intro hto (And.intro S1 (And.intro f1 (And.intro f2 f3)))))))))
          clear p1 p2 p3 p4 p5 p6 p7 p8 hg hfr hto hrow hrw hc hbl hv2 hv3 hb1 S1 hbx f1 f2 f3 f1' kk1 kk2
          go_upto_region 12 with fail
          rw [← hW1, ← hpx]
          clear hW1 hpx C c0 c1 c2 Cq
          by_cases ht0 : 0 ≤ torn
          · have e0 : decide ((0 : Int) ≤ torn) = true := decide_eq_true ht0
            by_cases ht1 : torn < (to_ : Int) - (fr : Int)
            · have e1 : decide (torn < (to_ : Int) - (fr : Int)) = true := decide_eq_true ht1
              have hw2 : wrap64 ((fr : Int) + torn) = ((fr + torn.toNat : Nat) : Int) := by unfold wrap64; omega
              have hw3 : (fr : Int) + torn = ((fr + torn.toNat : Nat) : Int) := by omega
              have HW3 := Lib.hid hw3
              clear hw3
              go_wp2_with fail
              generalize hW2 : World.setCell _ _ _ = W2
              have HW2 := Lib.hid hW2
              clear hW2
              go_meet
              obtain ⟨p1, p6, p7, hg, hfr, hto, S1, f1, f2, f3⟩ := HP.out
              refine Lib.hid ?_
              rw [fin_yes p1 HS.out.2.symm ht0 (by rw [← hfr, ← hto]; exact ht1) H.out.2.1.names p6 p7]
              have tt : Tou (fun j => j = t.g) W1 W2 := by rw [← HW2.out, hg]; exact Tou.set (F := fun j => j = t.g) t.g 1 _ rfl
              have h := S1.call (t' := thF ⟨t.nm, (crF (kpt kp) ss t).b, s.2.1 + torn.toNat, t.g, t.A, t.c⟩) (i + 3) (getT (crT_get p6)) (tt.mono (fun _ _ e => .inl e)) ⟨by
                  have := Blk.sets [(1, .int .i64 ((s.2.1 + torn.toNat : Nat) : Int))] f1
                  rw [← HW2.out, hg]
                  rw [← hfr] at this ⊢
                  first
                    | exact this
                    | (rw [HW3.out]; exact this), f2.kept tt (fun j hj e => by subst e; exact f3 hj), f3⟩ (fun j hj => .inl hj)
              rw [setT (crT_get p6)] at h
              exact h
            · have e1 : decide (torn < (to_ : Int) - (fr : Int)) = false := decide_eq_false ht1
              go_wp2_with fail
              go_meet
              obtain ⟨p1, p6, p7, hg, hfr, hto, S1, f1, f2, f3⟩ := HP.out
              refine Lib.hid ?_
              rw [fin_no (fun s' hs' e => by
                rw [← HS.out.2, Int.toNat_natCast, p1] at hs'
                injection hs' with hs'
                subst hs'
                rw [← hfr, ← hto] at e
                omega)]
              exact S1
          · have e0 : decide ((0 : Int) ≤ torn) = false := decide_eq_false ht0
            go_wp2_with fail
            go_meet
            obtain ⟨p1, p6, p7, hg, hfr, hto, S1, f1, f2, f3⟩ := HP.out
            refine Lib.hid ?_
            rw [fin_no (fun s' hs' e => by have := e.2.1; omega)]
            exact S1
        · have d0 : decide ((0 : Int) ≤ la) = false := decide_eq_false hla0
          go_wp2_with fail
          go_meet
          refine Lib.hid ?_
          rw [fin_no (fun s' hs' e => by have := e.1; rw [← HS.out.2] at this; omega)]
          exact HS.out.1
      case rest =>
        have S0 := hcut.out
        obtain ⟨D, hown, h2, h3, h4, h5⟩ : Mp wc bm (nmG T) := S0.at_ 1 rfl
        have C2 := fbsays (S0.blk 0)
        simp only [cellsSay, fsc, Nat.reduceAdd, and_true] at C2
        obtain ⟨nM, hnM⟩ : ∃ n, n = (nmG T).length := ⟨_, rfl⟩
        rw [← hnM] at hown
        obtain ⟨it, hit⟩ : ∃ it, it = wc.heap.size := ⟨_, rfl⟩
        have hgl : ∀ (i : Nat) (t : Ft), T[i]? = some t → t.g < it ∧ bm ≠ t.g := fun i t hi => by
          have e9 : (T.map (finF (kpt kp) torn ss))[i]? = some (finF (kpt kp) torn ss t) := by rw [List.getElem?_map, hi]; rfl
          refine ⟨?_, fun e => S0.apart (i := 1) (j := i + 3) rfl (getT e9) (by omega) bm rfl (.inl e)⟩
          rw [hit]
          exact (S0.at_ (i + 3) (getT e9)).1.lt
        have HS2 := Lib.hid (And.intro h2 (And.intro h3 (And.intro h4 (And.intro S0 (And.intro hgl hit)))))
        clear h2 h3 h4 h5 S0 hgl hnM hcut HS C
        go_wp2_with (at_range; go_must (refine wpList_range_own _ rfl _ FMT rfl FKT 61 Tryz.fsLaw Tryz.underlying62 ptrE bm nM D rfl hown ?_); intro wA hrg0 hg0 hs0)
        try go_frame
        rw [← hit] at hrg0 ⊢
        clear hit
        go_loopw [] (fun wy => ∃ (left : Lit → Bool) (cnt : Nat), Hid (wy.ranges Tryz.prog FKT ptrE bm it nM D left cnt ∧ (∀ kl, left kl = true → Maps.has D kl = true) ∧ Sep B w0 wy (thI it :: thB q 67 (fsc room bm (.slice PA np pc) d) :: thM bm (nmG T) :: thP (.slice PA np pc) (pcL T d.P) :: ((mixT (kpt kp) torn ss left T).map thF ++ (thB bl 45 #[.slice KA kn kc, .int .i64 torn] :: ts))))) (fun wy => wy.rangeLeft bm it)
        case atStart =>
          refine ⟨_, _, Lib.hid ⟨hrg0, fun kl h => h, ?_⟩⟩
          rw [mix_all (fun t ht => by
            rw [HS2.out.1, findM_T, find_name H.out.2.1.names ht]
            rfl)]
          exact HS2.out.2.2.2.1.cons (t := thI it) (below_of_none hg0) hrg0.lt (fun k e => by rw [show k = it from e, HS2.out.2.2.2.2.2]; exact Nat.le_refl _)
        case round =>
          obtain ⟨left, cnt, HR⟩ := hrel
          go_wp2_with (at_next; go_must (refine wpList_next_ranges _ rfl _ rfl FKT Tryz.fsLaw ptrE Value.string ptrV (fun key kl h => str_inv h) (fun v y h => (ptrE_shape h).imp fun o h => h.1) bm it nM D left cnt rfl HR.out.1 ?_ ?_))
          · intro _ hl0
            have S9 := HR.out.2.2
            rw [mix_none hl0] at S9
            have C9 := fbsays (S9.blk 1)
            simp only [cellsSay, fsc, Nat.reduceAdd, and_true] at C9
            have HE := Lib.hid S9
            clear hl0 HR S9
            go_wp2_with fail
            generalize hW9 : World.setCell _ _ _ = W9
            go_end0
            have Sa := Sep.put HE.out 1 q [(2, .slice none 0 0), (3, .bool false), (4, .int .i64 0), (5, .bool false)] (fsc room bm (.slice none 0 0) (crashD d (kpt kp) torn)) hW9
            have Sb := Sa.call (t' := thP (.slice none 0 0) []) 3 rfl (Tou.refl _ _) (OwnR.nil _ _ _ _ _) (fun k e => by cases e)
            refine ⟨rfl, bm, .slice none 0 0, T.map (lvF (kpt kp) torn ss), ?_, H.out.2.1.crashd H.out.2.2.2.1⟩
            rw [nmG_lv]
            exact Sb.tail.sub (((((List.sublist_cons_self _ _).append_left _).cons_cons _).cons_cons _).cons_cons _)
          · intro x c kl y1 y2 w1 cnt1 hkx hlx hvy hat hrg1 hlt1 hg1 hs1 hen
            obtain rfl := str_key hkx
            obtain ⟨hr, hsub, hS⟩ := HR.out
            have hhas := hsub _ hlx
            have hsome := HS2.out.1 x.data.toList
            rw [hhas, findM_T] at hsome
            obtain ⟨t, htf⟩ : ∃ t, T.find? (fun t => t.nm == x.data.toList) = some t := by
              cases hh : T.find? (fun t => t.nm == x.data.toList) with
              | none => rw [hh] at hsome; cases hsome
              | some t => exact ⟨t, rfl⟩
            have htm := List.mem_of_find?_eq_some htf
            have htn : t.nm = x.data.toList := by simpa using List.find?_some htf
            have hd := HS2.out.2.2.1 x.data.toList t.g (by rw [findM_T, htf]; rfl) .nil
            rw [hat] at hd
            obtain rfl : c = some t.g := by
              rw [ptrE_mk] at hvy
              injection hvy with hvy
              injection hvy with hvy _
              exact ptrD_inj (hvy.trans hd)
            obtain ⟨i, hi⟩ := List.getElem?_of_mem htm
            have S1 := hS.call (t' := thI it) 0 rfl (Tou.of_grown hg1 (fun k e => by injection e with e; exact e.symm)) (show it < w1.heap.size by rw [hs1]; exact hr.lt) (fun k e => .inl e)
            have hmx : (mixT (kpt kp) torn ss left T)[i]? = some (finF (kpt kp) torn ss t) := mix_get hi (by rw [htn]; exact hlx)
            have hix : (thI it :: thB q 67 (fsc room bm (.slice PA np pc) d) :: thM bm (nmG T) :: thP (.slice PA np pc) (pcL T d.P) :: ((mixT (kpt kp) torn ss left T).map thF ++ (thB bl 45 #[.slice KA kn kc, .int .i64 torn] :: ts)))[i + 4]? = some (thF (finF (kpt kp) torn ss t)) := getT (K0 := thB q 67 (fsc room bm (.slice PA np pc) d)) (K1 := thM bm (nmG T)) (K2 := thP (.slice PA np pc) (pcL T d.P)) hmx
            obtain ⟨l1, l2⟩ := finS_le (kept := kpt kp) (torn := torn) H.out.2.1 H.out.2.2.2.1 htm
            have S1 : Sep B w0 w1 (thI it :: thB q 67 (fsc room bm (.slice PA np pc) d) :: thM bm (nmG T) :: thP (.slice PA np pc) (pcL T d.P) :: ((mixT (kpt kp) torn ss left T).map thF ++ (thB bl 45 #[.slice KA kn kc, .int .i64 torn] :: ts))) := S1
            have HC := Lib.hid (leave_exact S1 hix (finS (kpt kp) torn ss t) l1 l2)
            have f1 : Blk w1 t.g 69 (finF (kpt kp) torn ss t).cs := (S1.at_ (i + 4) hix).1
            have Cf := fbsays f1
            simp only [cellsSay, Ft.cs, finF, Nat.reduceAdd, and_true] at Cf
            have hgt := HS2.out.2.2.2.2.1 i t hi
            have hse : (thI it :: thB q 67 (fsc room bm (.slice PA np pc) d) :: thM bm (nmG T) :: thP (.slice PA np pc) (pcL T d.P) :: ((mixT (kpt kp) torn ss left T).map thF ++ (thB bl 45 #[.slice KA kn kc, .int .i64 torn] :: ts))).set (i + 4) (thF (lvF (kpt kp) torn ss t)) = (thI it :: thB q 67 (fsc room bm (.slice PA np pc) d) :: thM bm (nmG T) :: thP (.slice PA np pc) (pcL T d.P) :: ((mixT (kpt kp) torn ss (fun z => left z && !z.sameKey (.string x.data.toList)) T).map thF ++ (thB bl 45 #[.slice KA kn kc, .int .i64 torn] :: ts))) := by
              rw [← htn, mix_step H.out.2.1.names hi]
              exact congrArg (thI it :: ·) (setT hmx)
            have HN := Lib.hid (And.intro hrg1 (And.intro (fun (kl : Lit) (h : (left kl && !kl.sameKey (.string x.data.toList)) = true) => hsub kl (by rw [Bool.and_eq_true] at h; exact h.1)) (And.intro hgt hse)))
            have hm : wr.rangeLeft bm it = cnt := hr.left_eq
            simp only [ptrV] at hen
            obtain ⟨g, hg⟩ : ∃ g, g = t.g := ⟨_, rfl⟩
            obtain ⟨su, hsu⟩ : ∃ su, su = finS (kpt kp) torn ss t := ⟨_, rfl⟩
            have HC : Hid (Calls Tryz.prog 59 #[.pointer (some ⟨t.g, 0, none⟩), .int .i64 (finS (kpt kp) torn ss t : Nat)] w1 _) := HC
            rw [← hsu, ← hg] at HC
            rw [← hsu, ← hg] at Cf
            rw [← hg] at hen
            have HSU := Lib.hid hsu
            clear hkx hlx hvy hat hrg1 hg1 hs1 hr hsub hS hhas hsome htf htm htn hd hi S1 hmx hix l1 l2 f1 hgt hse HR hsu hg
            go_wp2_with fail
            refine HC.out.mono ?_
            rintro e w2 ⟨rfl, S2, t2⟩
            have H2 := Lib.hid (And.intro S2 t2)
            clear S2 t2 HC Cf
            go_wp2_with fail
            go_roundw
            case measure =>
              have h9 := ranges_tou HN.out.1 H2.out.2 (fun e => HN.out.2.2.1.2 e) (fun e => by
                have h8 := HN.out.2.2.1.1
                have e : it = t.g := e
                omega)
              rw [hm, h9.left_eq]
              exact hlt1
            case rel =>
              obtain ⟨S2, t2⟩ := H2.out
              obtain ⟨hrg1, hsub, hgt, hse⟩ := HN.out
              refine ⟨_, cnt1, Lib.hid ⟨ranges_tou hrg1 t2 (fun e => hgt.2 e) (fun e => by
                have h8 := hgt.1
                have e : it = t.g := e
                omega), hsub, ?_⟩⟩
              rw [← hse]
              rw [HSU.out] at S2
              exact S2

end Go.Proofs.YtiogckgchlnldaaGreat

/- Layer 8: no call but Append makes the files' bytes more. -/
set_option linter.unusedSimpArgs false
set_option linter.unusedVariables false
namespace Go.Proofs.YtiogckgchlnldaaGreat
open Go.RowKit Go.Maps Go.ChangeMaps Go.MapKept Go.WideMaps
set_option maxRecDepth 100000

section
variable {d : Fd} {T : List Ft}
theorem used_runs (d : Fd) : usedD (runsD d).2 = usedD d := by
  unfold usedD
  rw [(runs_keeps d).1, (runs_keeps d).2]
theorem used_set (h : Fi d T) {n : Nm} {b c : List UInt8} (hr : rdD d n = some b) (hc : c.length ≤ b.length) : usedD { d with F := setF n c d.F, P := dropN n d.P } ≤ usedD d := by
  obtain ⟨x, hx⟩ : ∃ x, atF d.F n = some x := by
    unfold rdD at hr
    cases e : atF d.F n with
    | none => rw [e] at hr; cases hr
    | some x => exact ⟨x, rfl⟩
  obtain ⟨i, t, hi, hf, htn, -⟩ := h.there hx
  have hbt : b = t.b := by
    have := h.rd hf
    rw [hr] at this
    injection this
  subst htn
  have h1 := h.setd hi (t' := ⟨t.nm, c, c.length, t.g, t.A, t.c⟩) rfl rfl (by rw [← hbt]; exact hc)
  have e2 := sum_set (t' := ⟨t.nm, c, c.length, t.g, t.A, t.c⟩) hi
  have h2 := h1.used
  rw [h2, h.used]
  rw [hbt] at hc
  have e3 : (⟨t.nm, c, c.length, t.g, t.A, t.c⟩ : Ft).b.length = c.length := rfl
  rw [e3] at e2
  omega
theorem used_sync (h : Fi d T) (n : Nm) : usedD (syncD d n).2 ≤ usedD d := by
  unfold syncD
  cases hr : rdD d n with
  | none => exact Nat.le_refl _
  | some b =>
    show usedD (if _ then _ else _) ≤ _
    have hk := runs_keeps d
    split
    · rw [hk.1, hk.2]
      exact used_set h hr (Nat.le_refl _)
    · rw [used_runs]; exact Nat.le_refl _
theorem used_cut (h : Fi d T) (n : Nm) (k : Int) : usedD (cutD d n k).2 ≤ usedD d := by
  unfold cutD
  cases hr : rdD d n with
  | none => exact Nat.le_refl _
  | some b =>
    have hk := runs_keeps d
    show usedD (if _ then _ else _ : Nat × Fd).2 ≤ _
    split
    · exact Nat.le_refl _
    · show usedD (if _ then _ else _) ≤ _
      split
      · rw [hk.1, hk.2]
        exact used_set h hr (by rw [List.length_take]; omega)
      · rw [used_runs]; exact Nat.le_refl _
theorem used_remove (h : Fi d T) (n : Nm) : usedD (removeD d n).2 ≤ usedD d := by
  unfold removeD
  have hk := runs_keeps d
  split
  · exact Nat.le_refl _
  · show usedD (if _ then _ else _) ≤ _
    split
    · rw [hk.1, hk.2]
      have h2 := (h.dropd n).used
      have e : usedD { (runsD d).2 with F := dropN n d.F, P := dropN n d.P } = usedD { d with F := dropN n d.F, P := dropN n d.P } := rfl
      rw [e, h2, h.used]
      exact sum_filter_le _ _ T
    · rw [used_runs]; exact Nat.le_refl _
theorem used_create (h : Fi d T) (n : Nm) : usedD (createD d n).2 ≤ usedD d := by
  unfold createD
  have hk := runs_keeps d
  split
  · exact Nat.le_refl _
  · split
    · exact Nat.le_refl _
    · split
      · exact Nat.le_refl _
      · rename_i h1 h2 h3
        show usedD (if _ then _ else _) ≤ _
        split
        · rw [hk.1]
          have hat : atF d.F n = none := by
            cases e : atF d.F n with
            | none => rfl
            | some x => rw [e] at h2; simp at h2
          have hu := uniq_of (h.gone hat)
          have hok : okN n = true := by simpa using h1
          have h4 := h.ins (t := ⟨n, [], 0, 0, none, 0⟩) hu rfl rfl (of_decide_eq_true hok).2 (by have := h.len; omega)
          have h5 := h4.used
          have e : usedD { (runsD d).2 with F := insF (n, []) d.F } = usedD { d with F := insF (n, []) d.F } := by
            unfold usedD
            rw [hk.2]
          rw [e, h5, sum_perm (insT_perm _ _), h.used]
          simp
        · rw [used_runs]; exact Nat.le_refl _
theorem used_rename (h : Fi d T) (n m : Nm) : usedD (renameD d n m).2 ≤ usedD d := by
  unfold renameD
  have hk := runs_keeps d
  cases hat : atF d.F n with
  | none => exact Nat.le_refl _
  | some x =>
    show usedD (if _ then _ else _ : Nat × Fd).2 ≤ _
    split
    · exact Nat.le_refl _
    · split
      · exact Nat.le_refl _
      · rename_i h1 h2
        show usedD (if _ then _ else _) ≤ _
        split
        · rw [hk.1, hk.2]
          obtain ⟨i, t, hi, hf, htn, htx⟩ := h.there hat
          subst htn
          have hm := List.mem_of_getElem? hi
          have hok : okN m = true := by simpa using h1
          have h4 := h.rend hm (of_decide_eq_true hok).2 h2
          have h5 := h4.used
          rw [htx] at h5
          have e : usedD { (runsD d).2 with F := insF (m, x) (dropN t.nm (dropN m d.F)), P := (dropN m d.P).map fun p => if p.1 == t.nm then (m, p.2) else p } = usedD { d with F := insF (m, x) (dropN t.nm (dropN m d.F)), P := renP t.nm m (dropN m d.P) } := rfl
          rw [e, h5, sum_perm renT_perm, h.used, sum_perm (dropT_perm h.names hm)]
          rw [List.map_cons, List.sum_cons, List.map_cons, List.sum_cons]
          have e2 : dropT t.nm (dropT m T) = dropT m (dropT t.nm T) := by
            unfold dropT
            rw [List.filter_filter, List.filter_filter]
            congr 1
            funext x
            exact Bool.and_comm _ _
          rw [e2]
          exact Nat.add_le_add_left (sum_filter_le _ _ _) _
        · rw [used_runs]; exact Nat.le_refl _
theorem sum_map_le (f g : Ft → Nat) : ∀ l : List Ft, (∀ t ∈ l, f t ≤ g t) → (l.map f).sum ≤ (l.map g).sum
  | [], _ => Nat.le_refl _
  | x :: xs, h => by
    rw [List.map_cons, List.sum_cons, List.map_cons, List.sum_cons]
    exact Nat.add_le_add (h x List.mem_cons_self) (sum_map_le f g xs (fun t ht => h t (List.mem_cons_of_mem _ ht)))
theorem used_crash (h : Fi d T) (kept : Nat → Bool) (torn : Int) : usedD (crashD d kept torn) ≤ usedD d := by
  have h4 := (h.crashd (kept := kept) (torn := torn) rfl).used
  rw [h4, h.used, List.map_map]
  refine sum_map_le _ _ T (fun t ht => ?_)
  have := crF_len h ht kept d.P.length
  rw [List.take_of_length_le (by rw [spans_len]; exact Nat.le_refl _)] at this
  show ((crF kept (spans (posT T) d.P) t).b.take _).length ≤ t.b.length
  rw [List.length_take, this.1]
  omega
theorem used_append (h : Fi d T) (room : Int) (n : Nm) (b : List UInt8) (hu : usedD d + b.length ≤ 200000) (hl : d.P.length < 1000000) : usedD (appendD room d n b).2 ≤ usedD d + b.length := by
  unfold appendD
  have hk := runs_keeps d
  split
  · exact Nat.le_add_right _ _
  · split
    · exact Nat.le_add_right _ _
    · split
      · exact Nat.le_add_right _ _
      · rename_i h1 h2 h3
        show usedD (if _ then _ else _) ≤ _
        split
        · obtain ⟨x, hx⟩ : ∃ x, atF d.F n = some x := by
            cases e : atF d.F n with
            | none => rw [e] at h1; simp at h1
            | some x => exact ⟨x, rfl⟩
          obtain ⟨i, t, hi, hf, htn, -⟩ := h.there hx
          subst htn
          have h4 := (h.app hi (t' := ⟨t.nm, t.b ++ b, t.su, t.g, t.A, t.c⟩) rfl rfl b rfl hu hl).used
          have e : usedD { (runsD d).2 with P := (runsD d).2.P ++ [(t.nm, b)] } = usedD { d with P := d.P ++ [(t.nm, b)] } := by
            unfold usedD
            rw [hk.1, hk.2]
          have e2 := sum_set (t' := ⟨t.nm, t.b ++ b, t.su, t.g, t.A, t.c⟩) hi
          have e3 : (⟨t.nm, t.b ++ b, t.su, t.g, t.A, t.c⟩ : Ft).b.length = t.b.length + b.length := List.length_append
          rw [e3] at e2
          rw [e, h4, h.used]
          omega
        · rw [used_runs]; exact Nat.le_add_right _ _
end

end Go.Proofs.YtiogckgchlnldaaGreat

/- Layer 8: how many calls are left, how many pieces wait. -/
set_option linter.unusedSimpArgs false
set_option linter.unusedVariables false
namespace Go.Proofs.YtiogckgchlnldaaGreat
set_option maxRecDepth 100000

/-- no more calls left than before, at most k pieces more -/
def Lp (k : Nat) (d d' : Fd) : Prop := d'.lf ≤ d.lf ∧ d'.P.length ≤ d.P.length + k
theorem Lp.refl (k : Nat) (d : Fd) : Lp k d d := ⟨Nat.le_refl _, Nat.le_add_right _ _⟩
theorem lp_runs (d : Fd) (k : Nat) : Lp k d (runsD d).2 := by
  unfold runsD
  split
  · exact Lp.refl k d
  · split
    · exact ⟨Nat.sub_le _ _, Nat.le_add_right _ _⟩
    · exact Lp.refl k d
theorem lp_if {d : Fd} {k : Nat} {d1 : Fd} (b : Bool) (h : d1.lf = (runsD d).2.lf ∧ d1.P.length ≤ (runsD d).2.P.length + k) : Lp k d (if b = true then d1 else (runsD d).2) := by
  have h1 := lp_runs d 0
  split
  · exact ⟨by rw [h.1]; exact h1.1, Nat.le_trans h.2 (Nat.add_le_add_right h1.2 k)⟩
  · exact ⟨h1.1, Nat.le_trans h1.2 (Nat.add_le_add_left (Nat.zero_le k) _)⟩
theorem lp_create (d : Fd) (n : Nm) : Lp 0 d (createD d n).2 := by
  unfold createD
  split
  · exact Lp.refl _ _
  · split
    · exact Lp.refl _ _
    · split
      · exact Lp.refl _ _
      · exact lp_if _ ⟨rfl, Nat.le_refl _⟩
theorem lp_append (room : Int) (d : Fd) (n : Nm) (b : List UInt8) : Lp 1 d (appendD room d n b).2 := by
  unfold appendD
  split
  · exact Lp.refl _ _
  · split
    · exact Lp.refl _ _
    · split
      · exact Lp.refl _ _
      · exact lp_if _ ⟨rfl, by simp⟩
theorem lp_sync (d : Fd) (n : Nm) : Lp 0 d (syncD d n).2 := by
  unfold syncD
  cases rdD d n with
  | none => exact Lp.refl _ _
  | some b => exact lp_if _ ⟨rfl, List.length_filter_le _ _⟩
theorem lp_cut (d : Fd) (n : Nm) (k : Int) : Lp 0 d (cutD d n k).2 := by
  unfold cutD
  cases rdD d n with
  | none => exact Lp.refl _ _
  | some b =>
    show Lp 0 d (if _ then _ else _ : Nat × Fd).2
    split
    · exact Lp.refl _ _
    · exact lp_if _ ⟨rfl, List.length_filter_le _ _⟩
theorem lp_rename (d : Fd) (n m : Nm) : Lp 0 d (renameD d n m).2 := by
  unfold renameD
  cases atF d.F n with
  | none => exact Lp.refl _ _
  | some x =>
    show Lp 0 d (if _ then _ else _ : Nat × Fd).2
    split
    · exact Lp.refl _ _
    · split
      · exact Lp.refl _ _
      · exact lp_if _ ⟨rfl, by
          show (List.map _ _).length ≤ _
          rw [List.length_map]
          exact List.length_filter_le _ _⟩
theorem lp_remove (d : Fd) (n : Nm) : Lp 0 d (removeD d n).2 := by
  unfold removeD
  split
  · exact Lp.refl _ _
  · exact lp_if _ ⟨rfl, List.length_filter_le _ _⟩
theorem lp_crash (d : Fd) (kept : Nat → Bool) (torn : Int) : Lp 0 d (crashD d kept torn) := ⟨Nat.zero_le _, Nat.zero_le _⟩

end Go.Proofs.YtiogckgchlnldaaGreat
