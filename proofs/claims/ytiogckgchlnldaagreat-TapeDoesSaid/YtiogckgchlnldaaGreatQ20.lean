/- Joined: Fs23, Fs24. -/
import Derived.Test.YtiogckgchlnldaaGreatQ16
import Derived.Test.YtiogckgchlnldaaGreatQ2
set_option linter.unusedSimpArgs false
set_option linter.unusedVariables false
/- Layer 8: Files: the names in order. -/
set_option linter.unusedSimpArgs false
set_option linter.unusedVariables false
namespace Go.Proofs.YtiogckgchlnldaaGreat
open Go.RowKit Go.Maps Go.Sort Go.Shelf Go.ChangeMaps Go.MapKept Go.WideMaps
set_option maxRecDepth 100000

/-- how the seat's laid contracts name the program -/
theorem keys_any (bm : Nat) (w : World) : Calls Tryz.prog 72 #[.map (some bm)] w fun e w' => e = .returned (.func (.func 81) #[] #[.pointer (some ⟨w.heap.size, 0, none⟩)]) ∧ w' = w.alloc (.cells #[.map (some bm)] 62) :=
  (callsIn_wide (n := 5)).1 (AnyZ.keys_in Tryz.keysF Fence.wide 5 trivial rfl (some bm) w)
theorem sortsF (m : Nat) : AnyZ.SortsIn Tryz.prog Tryz.sortedF_ren Fence.wide m :=
  ⟨fun blk off cap ss W hH hblk hsz => callsIn_wide.2 (AnyM.slices_Sort_string Tryz.sortF blk off cap ss W hH hblk hsz), fun p cap W => callsIn_wide.2 (AnyM.slices_Sort_string_none Tryz.sortF p cap W)⟩

theorem ltN_lt : ∀ a b : Nm, ltN a b = true → a < b
  | _, [], h => by cases ‹Nm› <;> cases h
  | [], _ :: _, _ => List.nil_lt_cons _ _
  | a :: xs, b :: ys, h => by
    unfold ltN at h
    by_cases e : a = b
    · subst e
      rw [if_pos rfl] at h
      exact List.cons_lt_cons_iff.2 (.inr ⟨rfl, ltN_lt xs ys h⟩)
    · rw [if_neg e] at h
      exact List.cons_lt_cons_iff.2 (.inl (of_decide_eq_true h))
theorem sorted_up {l : List Nm} (h : l.Pairwise fun a b => ltN a b = true) : l.mergeSort leB = l := by
  refine List.mergeSort_of_pairwise (h.imp fun {a b} hab => ?_)
  exact decide_eq_true (List.le_of_lt (ltN_lt a b hab))

set_option maxHeartbeats 1000000 in
theorem sorted_any (bm : Nat) (M : List (Nm × Nat)) (w : World) (h : Mp w bm M) (hM : M.length ≤ 8) (hup : (M.map (·.1)).Pairwise fun a b => ltN a b = true) :
    Calls Tryz.prog 71 #[.func (.func 81) #[] #[.pointer (some ⟨w.heap.size, 0, none⟩)]] (w.alloc (.cells #[.map (some bm)] 62)) fun e w' => ∃ v : Value, e = .returned v ∧ Hid (w'.ownsRow (w.heap.size + 1) 9 1 v M.length ((M.map (·.1)).map encStr) ∧ Below (w.heap.size + 1) (w.alloc (.cells #[.map (some bm)] 62)) w') := by
  obtain ⟨D, hown, m2, m3, m4, m5⟩ := h
  have hbl := hown.lt
  have hmax : Maps.size D ≤ maxLen := by rw [m5]; unfold maxLen; omega
  have hbytes : Maps.size D * 16 ≤ 140737488355328 := by rw [m5]; omega
  have hseq : SeqGives Fence.wide 2 Tryz.prog 81 #[.pointer (some ⟨w.heap.size, 0, none⟩)] encStr (fun ss => ss.Perm (strKeys D)) (Maps.size D) (w.alloc (.cells #[.map (some bm)] 62)) :=
    AnyZ.keys_gives (ρ := Tryz.keysF_ren) { Tryz.keysF with } Fence.wide _ trivial rfl (by omega) w.heap.size bm _ D _ (by simp) (by simp) (by
      obtain ⟨es, clock, hb, Ft, hs, hD⟩ := hown
      exact ⟨es, clock, (Below.heap_alloc _ _ bm hbl).trans hb, Ft, hs, hD⟩)
  have hk := AnyZ.sorted_in Tryz.sortedF Fence.wide 5 trivial trivial trivial trivial rfl (by omega) (sortsF _) (enters_of Tryz.func80 (by kernel_rfl) rfl) 81 #[.pointer (some ⟨w.heap.size, 0, none⟩)] trivial (enters_of Tryz.func81 (by kernel_rfl) rfl) _ _ hmax hbytes _ hseq
  refine ((callsIn_wide (n := 5)).1 hk).mono ?_
  rintro e w' ⟨v, ss, rfl, hS, hrow, hnil, hb⟩
  obtain ⟨es, rfl, hes⟩ := hown.tidy Tryz.fsLaw
  have hperm : (M.map (·.1)).Perm (strKeys (.map es)) := perm_strKeys hes (fun p hp => m3 p.1 (by
    rw [has_eq, List.any_eq_true]
    refine ⟨p, hp, ?_⟩
    obtain ⟨es2, he2, hk2⟩ := hown.keysOf
    injection he2 with he2
    subst he2
    obtain ⟨x, hx⟩ := hk2 p hp
    obtain ⟨y, _, hy, _⟩ := Maps.keyOf_str Tryz.underlying9 hx
    rw [hy, sameS]
    simp)) (hup.imp fun {a b} hab e => by rw [e, ltN_irrefl] at hab; cases hab) (fun x => by
    rw [m2]
    unfold findM
    rw [Option.isSome_map, List.find?_isSome, List.mem_map]
    simp only [beq_iff_eq])
  have hss := mergeSort_of_perm (hS.trans hperm.symm)
  have hlen : ss.length = M.length := by rw [(hS.trans hperm.symm).length_eq, List.length_map]
  have h9 := hrow
  rw [show (w.alloc (.cells #[.map (some bm)] 62)).heap.size = w.heap.size + 1 by simp] at h9 hb
  have e9 : ss.mergeSort (fun x y => decide (x ≤ y)) = M.map (·.1) := hss.trans (sorted_up hup)
  rw [e9, hlen] at h9
  exact ⟨v, rfl, Lib.hid ⟨h9, hb⟩⟩

end Go.Proofs.YtiogckgchlnldaaGreat

/- Layer 8: Files. -/
set_option linter.unusedSimpArgs false
set_option linter.unusedVariables false
namespace Go.Proofs.YtiogckgchlnldaaGreat
open Go.RowKit Go.Maps Go.Sort Go.ChangeMaps Go.MapKept Go.WideMaps
set_option maxRecDepth 100000

/-- a file handed out: its name, its bytes and where they lie -/
structure Fe where
  nm : Nm
  b : List UInt8
  A : Option Addr
  c : Nat
def vaE (x : Fe) : Value := .slice x.A x.b.length x.c
def encE (x : Fe) : List Value := [.string ⟨x.nm.toArray⟩, vaE x]
theorem Tryz.eltE : Elt Tryz.prog 98 99 encE 2 40 := ⟨Tryz.underlying98, ⟨.agg #[.string ⟨#[]⟩, .slice none 0 0], by kernel_rfl, rfl⟩, by decide, fun _ => rfl, fun x v h => by
  simp [encE, vaE] at h; rcases h with rfl | rfl <;> rfl⟩
abbrev Ge (w : World) (R : Value) (L : List Fe) : Prop := Gl (·.b) vaE w 99 encE 2 R L
def nbE (x : Fe) : Nm × List UInt8 := (x.nm, x.b)
def nbT (t : Ft) : Nm × List UInt8 := (t.nm, t.b)
theorem row_str {w : World} {base n : Nat} {v : Value} {l : List Nm} (h : w.ownsRow base 9 1 v n (l.map encStr)) (hn : n = l.length) : ∃ (A : Option Addr) (c : Nat), v = .slice A n c ∧ ∀ k x, l[k]? = some x → ∃ g, A = some ⟨g, 0, none⟩ ∧ g < w.heap.size ∧ w.cell? ⟨g, k, none⟩ = some (.string ⟨x.toArray⟩) := by
  rcases h.2 with ⟨rfl, h0⟩ | ⟨g, cap, cur, rfl, h1, h2, h3, h4, h5, h6⟩
  · subst h0
    exact ⟨none, 0, rfl, fun k x hk => by rw [List.eq_nil_of_length_eq_zero hn.symm] at hk; simp at hk⟩
  · refine ⟨some ⟨g, 0, none⟩, cap, rfl, fun k x hk => ⟨g, rfl, (Array.getElem?_eq_some_iff.1 h2).1, ?_⟩⟩
    have hkl := (List.getElem?_eq_some_iff.1 hk).1
    have e := congrArg (fun t => t[k]?) h6
    simp only [List.getElem?_map, hk, Option.map_some] at e
    rw [List.getElem?_take_of_lt (by omega)] at e
    have : w.cell? ⟨g, k, none⟩ = cur[k]? := by simp [World.cell?, h2]
    rw [this]
    simpa [encStr] using e

set_option maxHeartbeats 8000000 in
theorem files_any {B q room : Nat} {w0 w : World} {ts : List Kt} {d : Fd} (h : FsI B w0 w q room ts d) :
    Calls Tryz.prog 62 #[.pointer (some ⟨q, 0, none⟩)] w fun e w' => ∃ R c L, e = .returned (.slice R d.F.length c) ∧ Hid (Ge w' (.slice R d.F.length c) L ∧ L.map nbE = d.F.map (fun f => (f.1, f.2 ++ pcs d.P f.1)) ∧ Below w.heap.size w w' ∧ ∀ k, footG vaE (.slice R d.F.length c) L k → w.heap.size ≤ k) := by
  obtain ⟨bm, VW, T, hs, hF⟩ := h
  have C := fbsays (FsS.bx hs)
  simp only [cellsSay, fsc, Nat.reduceAdd, and_true] at C
  have hup : ((nmG T).map (·.1)).Pairwise fun a b => ltN a b = true := by
    have h1 := hF.up
    rw [← hF.F] at h1
    unfold upN at h1
    rw [List.pairwise_map] at h1
    unfold nmG
    rw [List.map_map, List.pairwise_map]
    exact h1
  have HK := Lib.hid (keys_any bm w)
  have HSo := Lib.hid (sorted_any bm (nmG T) w (FsS.map hs) (by rw [nmG_len]; exact hF.fl) hup)
  have hDF : d.F.map (fun f => (f.1, f.2 ++ pcs d.P f.1)) = T.map nbT := by
    rw [← hF.F, List.map_map]
    apply List.map_congr_left
    intro t ht
    show (t.nm, t.b.take t.su ++ pcs d.P t.nm) = (t.nm, t.b)
    rw [← (hF.ok t ht).2.1]
  obtain ⟨n, hn⟩ : ∃ n, n = T.length := ⟨_, rfl⟩
  rw [hDF, hF.len, ← hn]
  have hn8 : n ≤ 8 := by rw [hn]; exact hF.fl
  have H := Lib.hid (And.intro hs (And.intro hF hn))
  clear hs hF hn hup hDF
  go_enter Tryz.func62, Tryz.ntmps62
  go_wp2_with fail
  refine HK.out.mono ?_
  rintro e w1 ⟨rfl, hw1⟩
  subst hw1
  clear HK
  go_wp2_with fail
  refine HSo.out.mono ?_
  rintro e w2 ⟨v, rfl, h2⟩
  obtain ⟨r2, b2⟩ := h2.out
  rw [nmG_len, ← H.out.2.2] at r2
  obtain ⟨NA, nc, rfl, hN⟩ := row_str r2 (by unfold nmG; rw [List.length_map, List.length_map]; exact H.out.2.2)
  have hb2 : Below w.heap.size w w2 := ((Below.refl _ w).alloc (Nat.le_refl _) _).trans (b2.mono (by omega))
  have HN := Lib.hid (And.intro hN hb2)
  clear r2 b2 h2 hN hb2 HSo
  clear C
  go_wp2_with fail
  go_loopw [3, 13] (fun s3 s13 wr => ∃ k : Nat, ∃ (R : Option Addr) (c : Nat), k ≤ n ∧ s3 = .slice R k c ∧ s13 = .int .i64 k ∧ Hid (∃ L, L.map nbE = (T.take k).map nbT ∧ OwnR wr w2.heap.size 99 encE 2 (.slice R k c) L ∧ Ge wr (.slice R k c) L ∧ Below w2.heap.size w2 wr ∧ ∀ j, footG vaE (.slice R k c) L j → w2.heap.size ≤ j))
    (fun _ s13 _ => n - (intOf s13).toNat)
  case atStart => exact ⟨0, none, 0, Nat.zero_le _, rfl, rfl, Lib.hid ⟨[], rfl, OwnR.nil _ _ _ _ _, Gl.nil _ _ _ _ _ _, Below.refl _ _, fun j hj => by rcases hj with hj | ⟨t, ht, _⟩ <;> simp_all [Value.ownBlock]⟩⟩
  case round =>
    obtain ⟨k, R, c, hkn, rfl, rfl, HR⟩ := hrel
    by_cases hlt : k < n
    · obtain ⟨x, hx⟩ : ∃ x, T[k]? = some x := ⟨_, List.getElem?_eq_getElem (by rw [← H.out.2.2]; exact hlt)⟩
      obtain ⟨L, l1, l2, l3, l4, l5⟩ := HR.out
      obtain ⟨gN, hNA, hgN, cN⟩ := HN.out.1 k x.nm (by unfold nmG; rw [List.map_map, List.getElem?_map, hx]; rfl)
      subst hNA
      have cN' := (l4.cell hgN).trans cN
      have hsr := Sep.go (Sep.go H.out.1 HN.out.2) l4
      have hxm := List.mem_of_getElem? hx
      have hnm : x.nm.length ≤ maxLen := by have := (H.out.2.1.ok x hxm).2.2; unfold maxLen; omega
      have look := (FsS.map hsr).look x.nm hnm
      rw [findM_T, find_name H.out.2.1.names hxm] at look
      simp only [Option.map_some, ptrV] at look
      have C := fbsays (FsS.bx hsr)
      obtain ⟨f1, f2, f3⟩ := FsS.file hsr hxm
      have Cf := fbsays f1
      simp only [cellsSay, fsc, Ft.cs, Ft.v, Nat.reduceAdd, and_true] at C Cf
      have hbl := H.out.2.1.blen hxm
      have HC := Lib.hid (clone_F f2 hbl)
      have hkl : (k : Int) < (n : Int) := by omega
      have hk0 : (0 : Int) ≤ (k : Int) := by omega
      have HX := Lib.hid hx
      have HL := Lib.hid (And.intro l1 (And.intro l2 (And.intro l3 (And.intro l4 l5))))
      clear l1 l2 l3 l4 l5 HR hx cN hgN hsr hxm hnm f1 f2 f3
      go_wp2_with fail
      refine HC.out.mono ?_
      rintro e w8 ⟨A8, c8, rfl, h8⟩
      obtain ⟨l1, l2, l3, l4, l5⟩ := HL.out
      have hLl : L.length = k := by
        have := congrArg List.length l1
        rw [List.length_map, List.length_map, List.length_take, ← H.out.2.2] at this
        omega
      obtain ⟨o8, b8⟩ := h8.out
      have hR := (l2.below b8).alloc (.cells #[.string ⟨x.nm.toArray⟩, .slice A8 x.b.length c8] 99)
      have hb10 : Below wr.heap.size wr (w8.alloc (.cells #[.string ⟨x.nm.toArray⟩, .slice A8 x.b.length c8] 99)) := b8.alloc b8.size _
      have HL2 := Lib.hid (And.intro l1 (And.intro l2 (And.intro l3 (And.intro l4 (And.intro l5 (And.intro o8 hb10))))))
      have HR2 := Lib.hid hR
      have h5n : L.length + 1 ≤ maxLen := by unfold maxLen; omega
      have h6n : (L.length + 1) * 40 ≤ 140737488355328 := by omega
      clear HL HC h8 o8 b8 hR hb10 l1 l2 l3 l4 l5 C Cf look cN'
      go_upto_region 6 with (at_builtin; go_must (refine appR1L Tryz.eltE _ rfl (.tmp 17) (.tmp 30) rfl w2.heap.size (.slice R k c) L rfl HR2.out w8.heap.size 1 ⟨x.nm, x.b, A8, c8⟩ _ _ rfl (Blk.new w8 _ _) rfl h5n h6n (by have := HL2.out.2.2.2.1.size; have := HL2.out.2.2.2.2.2.2.size; omega) ?_); intro g2 c2 w9 hown2 hgr2 hor2 hlt2)
      obtain ⟨l1, l2, l3, l4, l5, o8, hb10⟩ := HL2.out
      have hl8 : ∀ j, (Value.slice (some ⟨g2, 0, none⟩) (k + 1) c2).ownBlock = some j → (Value.slice R k c).ownBlock = some j ∨ (w8.alloc (.cells #[.string ⟨x.nm.toArray⟩, .slice A8 x.b.length c8] 99)).heap.size ≤ j := fun j e => by
        have e2 : g2 = j := by simpa [Value.ownBlock] using e
        subst e2
        rcases hor2 with h9 | h9
        · exact .inl h9
        · exact .inr (Nat.le_of_eq h9.symm)
      have hx8 : ∀ j, (vaE (⟨x.nm, x.b, A8, c8⟩ : Fe)).ownBlock = some j → wr.heap.size ≤ j := fun j e => (World.ownsRow.lt o8 j e).1
      rw [hLl] at hown2
      have G2 : Ge w9 (.slice (some ⟨g2, 0, none⟩) (k + 1) c2) (L ++ [(⟨x.nm, x.b, A8, c8⟩ : Fe)]) := l3.snoc (x := (⟨x.nm, x.b, A8, c8⟩ : Fe)) hb10 (hown2.mono (Nat.zero_le _)) hgr2 hl8 ((o8.mono (Nat.zero_le _)).below (below_alloc _ _)) hx8
      have b2 : Below w2.heap.size w2 w9 := Below.grown (on1 l4 hb10) hgr2 (on1 l4 hb10).size (fun j e => l5 j (.inl e))
      have f2 : ∀ j, footG vaE (.slice (some ⟨g2, 0, none⟩) (k + 1) c2) (L ++ [(⟨x.nm, x.b, A8, c8⟩ : Fe)]) j → w2.heap.size ≤ j := fun j hj => by
        rcases footG_snoc (x := (⟨x.nm, x.b, A8, c8⟩ : Fe)) (V := .slice R k c) (V2 := .slice (some ⟨g2, 0, none⟩) (k + 1) c2) (B := wr.heap.size) (fun k e => (hl8 k e).imp id (fun h => Nat.le_trans hb10.size h)) hx8 j hj with h9 | h9
        · exact l5 j h9
        · exact Nat.le_trans l4.size h9
      have m2 : (L ++ [(⟨x.nm, x.b, A8, c8⟩ : Fe)]).map nbE = (T.take (k + 1)).map nbT := by
        rw [List.take_add_one, HX.out, List.map_append, List.map_append, l1]
        rfl
      have HE := Lib.hid (show ∃ L, L.map nbE = (T.take (k + 1)).map nbT ∧ OwnR w9 w2.heap.size 99 encE 2 (.slice (some ⟨g2, 0, none⟩) (k + 1) c2) L ∧ Ge w9 (.slice (some ⟨g2, 0, none⟩) (k + 1) c2) L ∧ Below w2.heap.size w2 w9 ∧ ∀ j, footG vaE (.slice (some ⟨g2, 0, none⟩) (k + 1) c2) L j → w2.heap.size ≤ j from ⟨_, m2, hown2, G2, b2, f2⟩)
      clear l1 l2 l3 l4 l5 o8 hb10 hl8 hx8 G2 b2 f2 m2 hown2 hgr2 hor2 hlt2 hLl HL2 HR2
      go_wp2_with fail
      go_roundw
      case measure => simp [intOf]; omega
      case rel => exact ⟨k + 1, some ⟨g2, 0, none⟩, c2, by omega, rfl, by go_num, HE⟩
    · obtain rfl : k = n := by omega
      obtain ⟨L, l1, l2, l3, l4, l5⟩ := HR.out
      have hsz := HN.out.2.size
      have HEND := Lib.hid (show Ge wr (.slice R k c) L ∧ L.map nbE = T.map nbT ∧ Below w.heap.size w wr ∧ ∀ j, footG vaE (.slice R k c) L j → w.heap.size ≤ j from ⟨l3, by rw [l1, H.out.2.2, List.take_length], HN.out.2.trans (l4.mono hsz), fun j hj => Nat.le_trans hsz (l5 j hj)⟩)
      clear l1 l2 l3 l4 l5 HR hsz
      have hkk : ¬ ((k : Int) < (k : Int)) := by omega
      go_wp2_with fail
      go_ret
      exact ⟨R, c, rfl, L, HEND⟩

end Go.Proofs.YtiogckgchlnldaaGreat
