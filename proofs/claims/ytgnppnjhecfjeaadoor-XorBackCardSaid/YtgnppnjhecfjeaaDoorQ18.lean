/- Joined: Xr24. -/
import Derived.Test.YtgnppnjhecfjeaaDoorQ17
import Derived.Test.YtgnppnjhecfjeaaDoorQ6
import Derived.Test.YtgnppnjhecfjeaaDoorQ7
set_option linter.unusedSimpArgs false
set_option linter.unusedVariables false
/- Layer 3: values written one behind the other, and read: XorBack. -/
namespace Go.Proofs.YtgnppnjhecfjeaaDoor
open Go.RowKit

def lastX (s : XV) (l : List Nat) : XV := l.foldl (fun s v => (encX s v).2) s
def codesX (s : XV) : List Nat → List Bool
  | [] => []
  | v :: l => (encX s v).1 ++ codesX (encX s v).2 l
def stsX (s : XV) : List Nat → List XV
  | [] => []
  | v :: l => (encX s v).2 :: stsX (encX s v).2 l
theorem lastX_snoc (s : XV) (l : List Nat) (v : Nat) : lastX s (l ++ [v]) = (encX (lastX s l) v).2 := by simp [lastX, List.foldl_append]
theorem codesX_snoc (l : List Nat) (v : Nat) : ∀ s : XV, codesX s (l ++ [v]) = codesX s l ++ (encX (lastX s l) v).1 := by
  induction l with
  | nil => intro s; simp [codesX, lastX]
  | cons u l ih => intro s; simp only [List.cons_append, codesX, ih, List.append_assoc]; rfl
theorem stsX_snoc (l : List Nat) (v : Nat) : ∀ s : XV, stsX s (l ++ [v]) = stsX s l ++ [(encX (lastX s l) v).2] := by
  induction l with
  | nil => intro s; simp [stsX, lastX]
  | cons u l ih => intro s; simp only [List.cons_append, stsX, ih]; rfl
theorem stsX_length (l : List Nat) : ∀ s : XV, (stsX s l).length = l.length := by
  induction l with
  | nil => intro s; rfl
  | cons u l ih => intro s; simp [stsX, ih]
theorem lastX_ok (l : List Nat) : ∀ s : XV, soundX s = true → s.prev < 18446744073709551616 → (∀ v ∈ l, v < 18446744073709551616) → soundX (lastX s l) = true ∧ (lastX s l).prev < 18446744073709551616 := by
  induction l with
  | nil => intro s h1 h2 _; exact ⟨h1, h2⟩
  | cons u l ih =>
    intro s h1 h2 h3
    have hu := h3 u List.mem_cons_self
    obtain ⟨k1, k2, -⟩ := enc_sound h1 h2 hu
    exact ih _ k1 (by rw [k2]; exact hu) (fun v hv => h3 v (List.mem_cons_of_mem _ hv))
theorem codesX_length (l : List Nat) : ∀ s : XV, soundX s = true → s.prev < 18446744073709551616 → (∀ v ∈ l, v < 18446744073709551616) → (codesX s l).length ≤ 77 * l.length := by
  induction l with
  | nil => intro s _ _ _; exact Nat.zero_le _
  | cons u l ih =>
    intro s h1 h2 h3
    have hu := h3 u List.mem_cons_self
    obtain ⟨k1, k2, -⟩ := enc_sound h1 h2 hu
    have := ih _ k1 (by rw [k2]; exact hu) (fun v hv => h3 v (List.mem_cons_of_mem _ hv))
    have := (enc_len h1 h2 hu).2
    simp only [codesX, List.length_append, List.length_cons]
    omega
theorem codesX_app (l m : List Nat) : ∀ s : XV, codesX s (l ++ m) = codesX s l ++ codesX (lastX s l) m := by
  induction l with
  | nil => intro s; simp [codesX, lastX]
  | cons u l ih => intro s; simp only [List.cons_append, codesX, ih, List.append_assoc]; rfl
theorem stsX_get (l : List Nat) (k : Nat) (h : k < l.length) : ∀ s : XV, (stsX s l)[k]? = some (lastX s (l.take (k + 1))) := by
  induction l generalizing k with
  | nil => simp at h
  | cons u l ih =>
    intro s
    cases k with
    | zero => simp [stsX, lastX]
    | succ k =>
      simp only [stsX, List.getElem?_cons_succ, List.take_succ_cons]
      rw [ih k (by simpa using h)]
      rfl

/-- what is known, as cells -/
def encXV (s : XV) : List Value := [.bool s.has, .int .u64 s.prev, .int .u8 s.lead, .int .u8 s.width]
theorem Tryd.eltXV : Elt Tryd.prog 37 27 encXV 4 24 :=
  ⟨Tryd.underlying37, ⟨.agg #[.bool false, .int .u64 0, .int .u8 0, .int .u8 0], by kernel_rfl, rfl⟩, by decide, fun _ => rfl, fun x v hv => by
    simp only [encXV, List.mem_cons, List.not_mem_nil, or_false] at hv
    rcases hv with rfl | rfl | rfl | rfl <;> rfl⟩

/-- numbers of 64 bits as an argument reads them -/
def Us (w : World) (V : Option Addr) (l : List Nat) : Prop := ∀ (i x : Nat), l[i]? = some x → ∃ p o, V = some ⟨p, o, none⟩ ∧ w.cell? ⟨p, o + i, none⟩ = some (.int .u64 (x : Int))
theorem Us.below {w w' : World} {V : Option Addr} {l : List Nat} (h : Us w V l) (hb : Below w.heap.size w w') : Us w' V l := fun i x hi => by
  obtain ⟨p, o, hV, hc⟩ := h i x hi
  exact ⟨p, o, hV, (hb.cell (cell_lt hc)).trans hc⟩

/-- 'append(out, x)', x in a block of its own: only out's own block is touched -/
theorem appR1g {α : Type} {P : Program} {t e : TypeId} {enc : α → List Value} {sz bytes : Nat} (E : Elt P t e enc sz bytes) (w : World) {ops : Array Oper} {rest : List Oper} {o : Oper} {a : Act} {Q : Exit → Act → World → Prop} (hgd : o.guard = none) (s x : Operand)
    (ho : o.op = .call { callee := .builtin .append, args := #[s, x], argTypes := #[t, t] })
    (base : Nat) (v : Value) (L : List α) (hs : a.eval s = v) (hown : OwnR w base e enc sz v L) (g c : Nat) (y : α) (u : TypeId)
    (hx : a.eval x = .slice (some ⟨g, 0, none⟩) 1 c) (hb : Blk w g u (enc y).toArray) (hlen : L.length + 1 ≤ maxLen) (hbytes : (L.length + 1) * bytes ≤ 140737488355328) (hbase : base ≤ w.heap.size)
    (h : ∀ g' c' w', OwnR w' base e enc sz (.slice (some ⟨g', 0, none⟩) (L.length + 1) c') (L ++ [y]) → Below base w w' → base ≤ g' → w.grownBy w' v.ownBlock → wpList P ops Q rest (a.put o.dst (.slice (some ⟨g', 0, none⟩) (L.length + 1) c')) w') : wpList P ops Q (o :: rest) a w := by
  obtain ⟨z, hinfo, hzs⟩ := E.info
  obtain ⟨i, hi, hz, hsz, hby⟩ := info_parts hinfo
  refine wpList_append_own (P := P) w hgd s x t ho base e i z sz bytes E.under hi hz hsz hby hzs E.pos v L.length (L.flatMap enc) hs hown ⟨g, 0, none⟩ 1 c (enc y) hx (by rw [E.len, Nat.one_mul]) ?_ ?_ hlen hbytes hbase fun v' w' h2 h3 _ => ?_
  · intro j u hj
    have : (w.cell? ⟨g, j, none⟩) = some u := by rw [hb.cell]; simpa using hj
    unfold Addr.add
    split
    · rename_i h0; subst h0; exact this
    · simpa using this
  · exact fun u hu => E.one y u hu
  · have h4 : OwnR w' base e enc sz v' (L ++ [y]) := by unfold OwnR; rw [List.length_append, List.flatMap_append]; simpa using h2
    rcases h4.2 with ⟨_, h0⟩ | ⟨g', cap, cur, hv, hg, _⟩
    · simp at h0
    · rw [List.length_append, List.length_singleton] at hv
      subst hv
      exact h g' cap w' h4 (own_grown hown h3 hbase) hg h3

set_option maxRecDepth 100000 in
set_option maxHeartbeats 1000000 in
theorem xorBack_walk (V : Option Addr) (c : Nat) (l : List Nat) (w : World) (hV : Us w V l) (hl : l.length ≤ maxLen) (hv : ∀ v ∈ l, v < 18446744073709551616) (hT : Tab w) :
    Calls Tryd.prog 4 #[.slice V l.length c] w fun e w' => e = .returned (.bool true) ∧ Below w.heap.size w w' := by
  have hmx : Tryd.prog.follows .mixedOrders = true := by kernel_rfl
  have HT := Lib.hid hT
  have HV := Lib.hid hv
  have HU := Lib.hid hV
  clear hT hv hV
  unfold maxLen at hl
  by_cases hlen : 40 < l.length
  · have hI : (40 : Int) < l.length := by omega
    go_enter Tryd.func4, Tryd.ntmps4
    go_wp2_with fail
    refine (xknown_any _ HT.out).mono ?_
    rintro e w1 ⟨rfl, b1⟩
    go_wp2_with fail
    go_ret
    exact ⟨rfl, b1⟩
  · have hI : ¬ (40 : Int) < l.length := by omega
    go_enter Tryd.func4, Tryd.ntmps4
    go_wp2_with fail
    refine (xknown_any _ HT.out).mono ?_
    rintro e w1 ⟨rfl, b1⟩
    have t1 := b1
    have HT1 := Lib.hid (tabGo HT.out b1)
    have HU1 := Lib.hid (HU.out.below b1)
    clear b1 HT HU
    go_wp2_with fail
    obtain ⟨X0, S0, t2⟩ := two_at w1 #[.slice none (pack []).length 0, .int .i64 (([] : List Bool).length : Nat)] #[.bool xv0.has, .int .u64 xv0.prev, .int .u8 xv0.lead, .int .u8 xv0.width] 24 27
    have t3 := on1 t1 t2
    obtain ⟨W2, hW2⟩ : ∃ W2, W2 = (w1.alloc (.cells #[.slice none (pack []).length 0, .int .i64 (([] : List Bool).length : Nat)] 24)).alloc (.cells #[.bool xv0.has, .int .u64 xv0.prev, .int .u8 xv0.lead, .int .u8 xv0.width] 27) := ⟨_, rfl⟩
    have hW3 : W2 = (w1.alloc (.cells #[.slice none 0 0, .int .i64 0] 24)).alloc (.cells #[.bool false, .int .u64 0, .int .u8 0, .int .u8 0] 27) := hW2
    rw [← hW2] at X0 S0 t2 t3
    rw [← hW3]
    have hz : W2.heap.size = w1.heap.size + 2 := by rw [hW2]; simp
    clear hW2 hW3
    go_loopw [5, 6] (fun va i wr => ∃ (k : Nat) (A : Option Addr) (c1 : Nat), k ≤ l.length ∧ i = .int .i64 k ∧ Blk wr w1.heap.size 24 #[.slice A (pack (codesX xv0 (l.take k))).length c1, .int .i64 (codesX xv0 (l.take k)).length] ∧
        Blk wr (w1.heap.size + 1) 27 #[.bool (lastX xv0 (l.take k)).has, .int .u64 (lastX xv0 (l.take k)).prev, .int .u8 (lastX xv0 (l.take k)).lead, .int .u8 (lastX xv0 (l.take k)).width] ∧
        OwnB wr (w1.heap.size + 2) (.slice A (pack (codesX xv0 (l.take k))).length c1) (pack (codesX xv0 (l.take k))) ∧ OwnR wr (w1.heap.size + 2) 27 encXV 4 va (stsX xv0 (l.take k)) ∧ Below w1.heap.size w1 wr ∧ w1.heap.size + 2 ≤ wr.heap.size)
      (fun _ i _ => l.length - (intOf i).toNat)
    case atStart => exact ⟨0, none, 0, Nat.zero_le _, rfl, X0, S0, by simpa [codesX, pack, nb] using OwnB.nil _ _, OwnR.nil _ _ _ _ _, t2, by omega⟩
    case round =>
      obtain ⟨k, A, c1, hk, rfl, HX, HS, hown, hall, hbel, hsz⟩ := hrel
      rcases Nat.lt_or_ge k l.length with hlt | hge
      · have hvs : ∀ v ∈ l.take k, v < 18446744073709551616 := fun v hv => HV.out v (List.mem_of_mem_take hv)
        obtain ⟨hs1, hs2⟩ := lastX_ok (l.take k) xv0 rfl (by decide) hvs
        have hcl := codesX_length (l.take k) xv0 rfl (by decide) hvs
        have hkl : (l.take k).length = k := by rw [List.length_take]; omega
        rw [hkl] at hcl
        have hx := HV.out l[k] (List.getElem_mem hlt)
        have e1 := codesX_snoc (l.take k) l[k] xv0
        have e2 := lastX_snoc xv0 (l.take k) l[k]
        have e3 := stsX_snoc (l.take k) l[k] xv0
        rw [List.take_append_getElem hlt] at e1 e2 e3
        obtain ⟨p, o, rfl, hc⟩ := (HU1.out.below hbel) k l[k] (List.getElem?_eq_getElem hlt)
        obtain ⟨x, hxk⟩ : ∃ x, x = l[k] := ⟨_, rfl⟩
        rw [← hxk] at hc hx e1 e2 e3
        obtain ⟨M, hM⟩ : ∃ M, M = codesX xv0 (l.take k) := ⟨_, rfl⟩
        obtain ⟨all, hAl⟩ : ∃ a, a = stsX xv0 (l.take k) := ⟨_, rfl⟩
        obtain ⟨sh, sp, sl, sb, hS⟩ : ∃ sh sp sl sb, lastX xv0 (l.take k) = ⟨sh, sp, sl, sb⟩ := ⟨_, _, _, _, rfl⟩
        obtain ⟨N, ⟨th, tp, tl, tb⟩, hE⟩ : ∃ N T, encX ⟨sh, sp, sl, sb⟩ x = (N, T) := ⟨_, _, rfl⟩
        rw [← hM] at HX hown hcl e1
        rw [← hAl] at hall e3
        rw [hS] at HS hs1 hs2 e1 e2 e3
        rw [hE] at e1 e2 e3
        simp only at HS e1 e2 e3 hs2
        have HE := Lib.hid hE
        have HS1 := Lib.hid hs1
        have E2 := Lib.hid e2
        have E3 := Lib.hid e3
        have HTr := Lib.hid (tabGo HT1.out hbel)
        have Hal := Lib.hid (show all.length = k by rw [hAl, stsX_length, hkl])
        have Hne := Lib.hid (show ∀ g, u5.ownBlock = some g → g < wr.heap.size from fun g hg => (World.ownsRow.lt hall g hg).2)
        have k0 : 0 ≤ (k : Int) := by omega
        have k1 : (k : Int) < l.length := by omega
        have HH := Lib.hid (And.intro HX (And.intro HS (And.intro hown hall)))
        have Hbel := Lib.hid hbel
        obtain ⟨x0, x1⟩ := HX.duo.1
        obtain ⟨y0, y1, y2, y3⟩ := HS.quad.1
        have hP := (fun (W : World) (hb : Below wr.heap.size wr W) => xput_M A c1 M N sh sp sl sb x ⟨th, tp, tl, tb⟩ W hE hs1 (hown.below hb).bs (by omega) hx hs2 (tabGo HTr.out hb))
        obtain ⟨MN, hMN⟩ : ∃ X, X = M ++ N := ⟨_, rfl⟩
        simp only [← hMN] at hP
        have HP := Lib.hid hP
        rw [← hMN] at e1
        have E1 := Lib.hid e1
        clear hP hMN
        clear hxk hM hAl hS hE e1 e2 e3 hvs hkl hs1 HX HS hown hall hbel
        have kp := plus_cell wr
        go_wp2_with fail
        refine wp_region_frw [none, none, none, none, none, none, none, none, none, none, none, none, none, some 11, some 12] [6, 11, 12] [13, 14] (fun k lo v z => if k = 6 then ∃ (A3 : Option Addr) (c3 : Nat), v = .tuple #[.agg #[.slice A3 (pack MN).length c3, .int .i64 (MN.length : Nat)], .agg #[.bool th, .int .u64 tp, .int .u8 tl, .int .u8 tb], .int .u16 0] ∧ OwnB z lo (.slice A3 (pack MN).length c3) (pack MN)
          else if k = 11 then v = .pointer (some ⟨lo, 0, none⟩) ∧ z.heap.size = lo + 1 ∧ Blk z lo 24 #[.slice none 0 0, .int .i64 0]
          else v = .pointer (some ⟨lo, 0, none⟩) ∧ z.heap.size = lo + 1 ∧ Blk z lo 27 #[.bool false, .int .u64 0, .int .u8 0, .int .u8 0]) hmx (by kernel_rfl) ?_
        iterate 6 (refine walkH_one rfl rfl (by kernel_rfl) ?_; go_big_quiet_step (fail); refine wpQuiet_nil ?_)
        refine walkH_make rfl rfl (by kernel_rfl) (fun x => ?_) ?_
        · refine grow_call ?_ ((HP.out _ (plus_below wr x)).mono ?_)
          · simp [execOp, go_sem]
          · rintro e w4 ⟨A3, c3, rfl, o3, b4⟩
            exact ⟨_, rfl, b4, A3, c3, rfl, o3⟩
        rintro V6 lo6 z6 ⟨A3, c3, rfl, o3⟩ hlo6 hz6 hb6
        conv => arg 12; simp [Act.put]
        iterate 4 (refine walkH_one rfl rfl (by kernel_rfl) ?_; go_big_quiet_step (fail); refine wpQuiet_nil ?_)
        refine walkH_make rfl rfl (by kernel_rfl) (fun x => ?_) ?_
        · exact grow_alloc (by simp [execOp, go_sem]) ⟨rfl, by simp, Blk.new _ _ _⟩
        rintro V11 lo11 z11 ⟨rfl, hs11, hb11⟩ hlo11 hz11 hbw11
        conv => arg 12; simp [Act.put]
        refine walkH_make rfl rfl (by kernel_rfl) (fun x => ?_) ?_
        · exact grow_alloc (by simp [execOp, go_sem]) ⟨rfl, by simp, Blk.new _ _ _⟩
        rintro V12 lo12 z12 ⟨rfl, hs12, hb12⟩ hlo12 hz12 hbw12
        conv => arg 12; simp [Act.put]
        refine walkH_store rfl rfl (j := 11) rfl (by kernel_rfl) (fun W hW hA => ?_)
        have hB : Blk W lo11 24 #[.slice none 0 0, .int .i64 0] := Agr.blk (s := ⟨z11, lo11, z11.heap.size⟩) hA hb11 (Nat.le_refl _) (by rw [hs11]; exact Nat.lt_succ_self _)
        obtain ⟨⟨x0, x1⟩, x2, x3⟩ := hB.duo
        refine ⟨(W.setCell ⟨lo11, 0, none⟩ (.slice A3 (pack MN).length c3)).setCell ⟨lo11, 1, none⟩ (.int .i64 (MN.length : Nat)), by simp [execOp, go_sem, x0, x1, x2, x3], ((storeUpon.same W _).cell _ _ (Nat.le_refl _) (show lo11 < z11.heap.size by omega)).cell _ _ (Nat.le_refl _) (show lo11 < z11.heap.size by omega), fun hbz13 => ?_⟩
        have hb13 := hB.set2 (.slice A3 (pack MN).length c3) (.int .i64 (MN.length : Nat))
        generalize (W.setCell ⟨lo11, 0, none⟩ (.slice A3 (pack MN).length c3)).setCell ⟨lo11, 1, none⟩ (.int .i64 (MN.length : Nat)) = z13 at *
        clear hA hB x0 x1 x2 x3 hW
        conv => arg 12; simp [Act.put]
        refine walkH_store rfl rfl (j := 12) rfl (by kernel_rfl) (fun W hW hA => ?_)
        have hB : Blk W lo12 27 #[.bool false, .int .u64 0, .int .u8 0, .int .u8 0] := Agr.blk (s := ⟨z12, lo12, z12.heap.size⟩) hA hb12 (Nat.le_refl _) (by rw [hs12]; exact Nat.lt_succ_self _)
        obtain ⟨⟨x0, x1, x2, x3⟩, x4, x5, x6, x7⟩ := hB.quad
        refine ⟨(((W.setCell ⟨lo12, 0, none⟩ (.bool th)).setCell ⟨lo12, 1, none⟩ (.int .u64 tp)).setCell ⟨lo12, 2, none⟩ (.int .u8 tl)).setCell ⟨lo12, 3, none⟩ (.int .u8 tb), by simp [execOp, go_sem, x0, x1, x2, x3, x4, x5, x6, x7],
          ((((storeUpon.same W _).cell _ _ (Nat.le_refl _) (show lo12 < z12.heap.size by omega)).cell _ _ (Nat.le_refl _) (show lo12 < z12.heap.size by omega)).cell _ _ (Nat.le_refl _) (show lo12 < z12.heap.size by omega)).cell _ _ (Nat.le_refl _) (show lo12 < z12.heap.size by omega), fun hbz14 => ?_⟩
        have hb14 := hB.set4 (.bool th) (.int .u64 tp) (.int .u8 tl) (.int .u8 tb)
        generalize (((W.setCell ⟨lo12, 0, none⟩ (.bool th)).setCell ⟨lo12, 1, none⟩ (.int .u64 tp)).setCell ⟨lo12, 2, none⟩ (.int .u8 tl)).setCell ⟨lo12, 3, none⟩ (.int .u8 tb) = z14 at *
        clear hA hB x0 x1 x2 x3 x4 x5 x6 x7 hW
        conv => arg 12; simp [Act.put]
        refine walkH_one rfl rfl (by kernel_rfl) ?_; go_big_quiet_step (fail); refine wpQuiet_nil ?_
        refine walkH_end ?_
        intro W hR
        have k6 : OwnB W lo6 (.slice A3 (pack MN).length c3) (pack MN) := Agr.own (s := ⟨z6, lo6, z6.heap.size⟩) (hR.agr 6) o3 rfl
        have k11 : Blk W lo11 24 #[.slice A3 (pack MN).length c3, .int .i64 (MN.length : Nat)] := Agr.blk (s := ⟨z13, lo11, z11.heap.size⟩) (hR.agr 11) hb13 (Nat.le_refl _) (by rw [hs11]; exact Nat.lt_succ_self _)
        have k12 : Blk W lo12 27 #[.bool th, .int .u64 tp, .int .u8 tl, .int .u8 tb] := Agr.blk (s := ⟨z14, lo12, z12.heap.size⟩) (hR.agr 12) hb14 (Nat.le_refl _) (by rw [hs12]; exact Nat.lt_succ_self _)
        have kb := hR.base
        clear hR hb13 hb14 hb12 hb11 hbz13 hbz14 hbw11 hbw12 hb6 o3 hz6 hz11 hz12 hs11 hs12 kp x0 x1 y0 y1 y2 y3
        obtain ⟨hx1, hx2, hx3, hx4⟩ := HH.out
        obtain ⟨gs, gp, -, gl, gb⟩ := enc_sound (s := ⟨sh, sp, sl, sb⟩) (v := x) HS1.out hs2 hx
        rw [HE.out] at gs gp gl gb
        replace gs : soundX ⟨th, tp, tl, tb⟩ = true := gs
        replace gl : tl ≤ 31 := gl
        replace gb : tb ≤ 64 := gb
        replace gp : tp = x := gp
        have HGS := Lib.hid gs
        have Hgp := Lib.hid gp
        have K0 := (((((Ks.nil W).cons (k := kB _ _ _) (hx1.below kb hx1.lt)).cons (k := kB _ _ _) (hx2.below kb hx2.lt)).cons (k := kB _ _ _) k11).cons (k := kB _ _ _) k12).own_ k6
        have HK := Lib.hid K0
        have Hall := Lib.hid (hx4.below kb)
        have Hb := Lib.hid (Hbel.out.trans (kb.mono (show w1.heap.size ≤ wr.heap.size by omega)))
        have z0 := kb.size
        clear K0 hx1 hx2 hx3 hx4 gs gp k11 k12 k6 HH kb
        obtain ⟨⟨q0, q1, q2, q3⟩, -⟩ := (HK.out.blk 1).quad
        go_wp2_with fail
        refine (xsound_any th tp tl tb W (by omega) (by omega)).mono ?_
        rintro e w5 ⟨rfl, b5⟩
        rw [HGS.out]
        replace HK := Lib.hid (HK.out.go b5)
        replace Hall := Lib.hid (Hall.out.below b5)
        replace Hb := Lib.hid (Hb.out.trans (b5.mono (show w1.heap.size ≤ W.heap.size by omega)))
        have z5 := b5.size
        clear q0 q1 q2 q3 b5
        obtain ⟨⟨q0, q1, q2, q3⟩, -⟩ := (HK.out.blk 1).quad
        obtain ⟨⟨r0, r1⟩, -⟩ := (HK.out.blk 2).duo
        obtain ⟨⟨u0, u1, u2, u3⟩, u4, u5, u6, u7⟩ := (HK.out.blk 3).quad
        obtain ⟨⟨v0, v1⟩, v2, v3⟩ := (HK.out.blk 4).duo
        go_upto_region 14 with fail
        have ne1 : w1.heap.size ≠ w1.heap.size + 1 := by omega
        have nl12 : lo12 ≠ w1.heap.size ∧ lo12 ≠ w1.heap.size + 1 := by omega
        have F1 := (((((HK.out.blk 4).set2 (.slice A3 (pack MN).length c3) (.int .i64 (MN.length : Nat))).far ⟨w1.heap.size + 1, 0, none⟩ (.bool th) ne1).far ⟨w1.heap.size + 1, 1, none⟩ (.int .u64 tp) ne1).far ⟨w1.heap.size + 1, 2, none⟩ (.int .u8 tl) ne1).far ⟨w1.heap.size + 1, 3, none⟩ (.int .u8 tb) ne1
        have F2 := ((((HK.out.blk 3).far ⟨w1.heap.size, 0, none⟩ (.slice A3 (pack MN).length c3) (Ne.symm ne1)).far ⟨w1.heap.size, 1, none⟩ (.int .i64 (MN.length : Nat)) (Ne.symm ne1))).set4 (.bool th) (.int .u64 tp) (.int .u8 tl) (.int .u8 tb)
        have F3 := (((((((HK.out.blk 1).far ⟨w1.heap.size, 0, none⟩ (.slice A3 (pack MN).length c3) nl12.1).far ⟨w1.heap.size, 1, none⟩ (.int .i64 (MN.length : Nat)) nl12.1)).far ⟨w1.heap.size + 1, 0, none⟩ (.bool th) nl12.2).far ⟨w1.heap.size + 1, 1, none⟩ (.int .u64 tp) nl12.2).far ⟨w1.heap.size + 1, 2, none⟩ (.int .u8 tl) nl12.2).far ⟨w1.heap.size + 1, 3, none⟩ (.int .u8 tb) nl12.2
        have no := (HK.out.own 0).ne (show w1.heap.size < lo6 by omega)
        have no' := (HK.out.own 0).ne (show w1.heap.size + 1 < lo6 by omega)
        have F4 := (((((((HK.out.own 0).far (p := ⟨w1.heap.size, 0, none⟩) no (.slice A3 (pack MN).length c3)).far (p := ⟨w1.heap.size, 1, none⟩) no (.int .i64 (MN.length : Nat)))).far (p := ⟨w1.heap.size + 1, 0, none⟩) no' (.bool th)).far (p := ⟨w1.heap.size + 1, 1, none⟩) no' (.int .u64 tp)).far (p := ⟨w1.heap.size + 1, 2, none⟩) no' (.int .u8 tl)).far (p := ⟨w1.heap.size + 1, 3, none⟩) no' (.int .u8 tb)
        have na := Hall.out.ne (show w1.heap.size < w1.heap.size + 2 by omega)
        have na' := Hall.out.ne (show w1.heap.size + 1 < w1.heap.size + 2 by omega)
        have F5 := (((((((Hall.out).far (p := ⟨w1.heap.size, 0, none⟩) na (.slice A3 (pack MN).length c3)).far (p := ⟨w1.heap.size, 1, none⟩) na (.int .i64 (MN.length : Nat)))).far (p := ⟨w1.heap.size + 1, 0, none⟩) na' (.bool th)).far (p := ⟨w1.heap.size + 1, 1, none⟩) na' (.int .u64 tp)).far (p := ⟨w1.heap.size + 1, 2, none⟩) na' (.int .u8 tl)).far (p := ⟨w1.heap.size + 1, 3, none⟩) na' (.int .u8 tb)
        have F6 := ((((((Hb.out).setCell (p := ⟨w1.heap.size, 0, none⟩) (Nat.le_refl _) (.slice A3 (pack MN).length c3)).setCell (p := ⟨w1.heap.size, 1, none⟩) (Nat.le_refl _) (.int .i64 (MN.length : Nat))).setCell (p := ⟨w1.heap.size + 1, 0, none⟩) (Nat.le_succ _) (.bool th)).setCell (p := ⟨w1.heap.size + 1, 1, none⟩) (Nat.le_succ _) (.int .u64 tp)).setCell (p := ⟨w1.heap.size + 1, 2, none⟩) (Nat.le_succ _) (.int .u8 tl)).setCell (p := ⟨w1.heap.size + 1, 3, none⟩) (Nat.le_succ _) (.int .u8 tb)
        clear q0 q1 q2 q3 r0 r1 u0 u1 u2 u3 u4 u5 u6 u7 v0 v1 v2 v3 na na' no no' HK Hall Hb
        generalize (((((w5.setCell ⟨w1.heap.size, 0, none⟩ (.slice A3 (pack MN).length c3)).setCell ⟨w1.heap.size, 1, none⟩ (.int .i64 (MN.length : Nat))).setCell ⟨w1.heap.size + 1, 0, none⟩ (.bool th)).setCell ⟨w1.heap.size + 1, 1, none⟩ (.int .u64 tp)).setCell ⟨w1.heap.size + 1, 2, none⟩ (.int .u8 tl)).setCell ⟨w1.heap.size + 1, 3, none⟩ (.int .u8 tb) = W6 at *
        obtain ⟨⟨q0, q1, q2, q3⟩, -⟩ := F3.quad
        have zW := F3.lt
        have l1 := Lib.hid (show all.length + 1 ≤ maxLen by rw [Hal.out]; unfold maxLen; omega)
        have l2 := Lib.hid (show (all.length + 1) * 24 ≤ 140737488355328 by rw [Hal.out]; omega)
        have l3 := Lib.hid (show w1.heap.size + 2 ≤ (W6.alloc (.cells #[.bool th, .int .u64 tp, .int .u8 tl, .int .u8 tb] 27)).heap.size by simp; omega)
        have l4 := Lib.hid (F5.alloc (.cells #[.bool th, .int .u64 tp, .int .u8 tl, .int .u8 tb] 27))
        have l5 := Lib.hid (show Blk (W6.alloc (.cells #[.bool th, .int .u64 tp, .int .u8 tl, .int .u8 tb] 27)) W6.heap.size 27 (encXV ⟨th, tp, tl, tb⟩).toArray from Blk.new W6 _ _)
        have HF1 := Lib.hid F1
        have HF2 := Lib.hid F2
        have HF4 := Lib.hid F4
        have HF6 := Lib.hid F6
        clear F1 F2 F3 F4 F5 F6
        go_wp2_with (at_builtin; go_must (refine appR1g Tryd.eltXV _ rfl (.tmp 53) (.tmp 55) rfl (w1.heap.size + 2) _ all rfl l4.out W6.heap.size 1 (XV.mk th tp tl tb) 27 rfl l5.out l1.out l2.out l3.out ?_); intro g2 c2 w7 hown2 hb2 hg2 hgr)
        have F1 := HF1.out
        have F2 := HF2.out
        have F4 := HF4.out
        have F6 := HF6.out
        have G1 := (F1.alloc (.cells #[.bool th, .int .u64 tp, .int .u8 tl, .int .u8 tb] 27)).below hb2 (by omega)
        have G2 := (F2.alloc (.cells #[.bool th, .int .u64 tp, .int .u8 tl, .int .u8 tb] 27)).below hb2 (by omega)
        have G4 : OwnB w7 lo6 (.slice A3 (pack MN).length c3) (pack MN) := World.ownsRow.kept (F4.alloc (.cells #[.bool th, .int .u64 tp, .int .u8 tl, .int .u8 tb] 27)) hgr (by
          rcases hq : (Value.slice A3 (pack MN).length c3).ownBlock with _ | g
          · exact .inl rfl
          · right
            intro e
            have h1 := (World.ownsRow.lt F4 g hq).1
            have h2 := Hne.out g e.symm
            omega)
        clear F1 F2 F4 q0 q1 q2 q3 hgr
        go_roundw
        case measure => simp [intOf]; omega
        case rel =>
          refine ⟨k + 1, A3, c3, hlt, by go_num, ?_⟩
          rw [E1.out, E2.out, E3.out]
          refine ⟨G1, G2, G4.mono (by omega), ?_, (F6.alloc (by omega) _).trans (hb2.mono (by omega)), by have := hb2.size; simp at this; omega⟩
          exact hown2
      · obtain rfl : k = l.length := by omega
        rw [List.take_length] at HX HS hown hall
        generalize wr = WA at *
        obtain ⟨M, hM⟩ : ∃ M, M = codesX xv0 l := ⟨_, rfl⟩
        obtain ⟨all, hAl⟩ : ∃ a, a = stsX xv0 l := ⟨_, rfl⟩
        rw [← hM] at HX hown
        rw [← hAl] at hall
        have HM := Lib.hid hM
        have HAl := Lib.hid hAl
        have hcl := codesX_length l xv0 rfl (by decide) HV.out
        rw [← hM] at hcl
        obtain ⟨TL, hTL⟩ : ∃ T, T = lastX xv0 l := ⟨_, rfl⟩
        rw [← hTL] at HS
        obtain ⟨x0, x1⟩ := HX.duo.1
        have HH := Lib.hid (And.intro HX (And.intro hown hall))
        have Hbel := Lib.hid hbel
        have zx := HX.lt
        clear hM hAl hTL HX HS hown hall hbel
        have B0 := Blk.new WA 27 #[.bool (lastX xv0 (l.take 0)).has, .int .u64 (lastX xv0 (l.take 0)).prev, .int .u8 (lastX xv0 (l.take 0)).lead, .int .u8 (lastX xv0 (l.take 0)).width]
        go_wp2_with fail
        go_loopw [10, 12] (fun at_ i w2 => ∃ j : Nat, j ≤ l.length ∧ at_ = .int .i64 ((codesX xv0 (l.take j)).length : Nat) ∧ i = .int .i64 j ∧ Blk w2 WA.heap.size 27 #[.bool (lastX xv0 (l.take j)).has, .int .u64 (lastX xv0 (l.take j)).prev, .int .u8 (lastX xv0 (l.take j)).lead, .int .u8 (lastX xv0 (l.take j)).width] ∧ Below WA.heap.size WA w2)
          (fun _ i _ => l.length - (intOf i).toNat)
        case atStart => exact ⟨0, Nat.zero_le _, rfl, rfl, B0, below_alloc _ _⟩
        case round =>
          obtain ⟨j, hj, rfl, rfl, HR, hb2⟩ := hrel
          obtain ⟨hx1, hx2, hx3⟩ := HH.out
          have zr := HR.lt
          have HK := Lib.hid ((((Ks.nil _).cons (k := kB _ _ _) (hx1.below hb2 hx1.lt)).own_ (own_below hx2 hb2)).cons (k := kB _ _ _) HR)
          have Hall := Lib.hid (OwnR.below hx3 hb2)
          have Hb2 := Lib.hid hb2
          clear hx1 hx2 hx3 HR hb2 B0
          obtain ⟨⟨r0, r1, r2, r3⟩, r4, r5, r6, r7⟩ := (HK.out.blk 0).quad
          obtain ⟨⟨v0, v1⟩, -⟩ := (HK.out.blk 2).duo
          rcases Nat.lt_or_ge j l.length with hlt | hge
          · have hvs : ∀ v ∈ l.take j, v < 18446744073709551616 := fun v hv => HV.out v (List.mem_of_mem_take hv)
            obtain ⟨hs1, hs2⟩ := lastX_ok (l.take j) xv0 rfl (by decide) hvs
            have hx := HV.out l[j] (List.getElem_mem hlt)
            have e0 : M = codesX xv0 (l.take j) ++ ((encX (lastX xv0 (l.take j)) l[j]).1 ++ codesX (encX (lastX xv0 (l.take j)) l[j]).2 (l.drop (j + 1))) := by
              have h := codesX_app (l.take j) (l.drop j) xv0
              rw [List.take_append_drop, List.drop_eq_getElem_cons hlt] at h
              rw [HM.out, h]
              rfl
            have e1 := codesX_snoc (l.take j) l[j] xv0
            have e2 := lastX_snoc xv0 (l.take j) l[j]
            have e3 := stsX_get l j hlt xv0
            rw [List.take_append_getElem hlt] at e1 e2
            rw [← HAl.out] at e3
            obtain ⟨p, o, rfl, hc⟩ := (HU1.out.below (Hbel.out.trans (Hb2.out.mono (show w1.heap.size ≤ WA.heap.size by omega)))) j l[j] (List.getElem?_eq_getElem hlt)
            obtain ⟨x, hxk⟩ : ∃ x, x = l[j] := ⟨_, rfl⟩
            rw [← hxk] at hc hx e0 e1 e2
            obtain ⟨C, hC⟩ : ∃ C, C = codesX xv0 (l.take j) := ⟨_, rfl⟩
            obtain ⟨sh, sp, sl, sb, hS⟩ : ∃ sh sp sl sb, lastX xv0 (l.take j) = ⟨sh, sp, sl, sb⟩ := ⟨_, _, _, _, rfl⟩
            obtain ⟨N, ⟨th, tp, tl, tb⟩, hE⟩ : ∃ N T, encX ⟨sh, sp, sl, sb⟩ x = (N, T) := ⟨_, _, rfl⟩
            rw [← hC] at e0 e1
            rw [hS] at hs1 hs2 e0 e1 e2 HK
            simp only at HK
            clear r0 r1 r2 r3 r4 r5 r6 r7
            obtain ⟨⟨r0, r1, r2, r3⟩, r4, r5, r6, r7⟩ := (HK.out.blk 0).quad
            rw [hE] at e0 e1 e2
            rw [e2] at e3
            simp only at e0 e1 e2 hs2
            have hlC : C.length + N.length ≤ M.length := by rw [e0]; simp
            have hg : getX (pack M) (M.length : Int) ⟨sh, sp, sl, sb⟩ (C.length : Int) = (x, ((C.length + N.length : Nat) : Int), ⟨th, tp, tl, tb⟩, 0) := by
              rw [getX_dec (sound_pack M) hs1 (by omega), bits_pack]
              have : M.drop C.length = N ++ codesX ⟨th, tp, tl, tb⟩ (l.drop (j + 1)) := by rw [e0, List.drop_left]
              rw [this]
              have hd := dec_enc (s := ⟨sh, sp, sl, sb⟩) (v := x) hs1 hs2 hx (codesX ⟨th, tp, tl, tb⟩ (l.drop (j + 1)))
              rw [hE] at hd
              rw [hd]
              rfl
            obtain ⟨CN, hCN⟩ : ∃ c, c = C.length + N.length := ⟨_, rfl⟩
            obtain ⟨cn, hcn⟩ : ∃ c, c = C.length := ⟨_, rfl⟩
            rw [← hCN] at hg
            have hgc := xget_any A c1 (pack M) (M.length : Int) (cn : Int) sh sp sl sb wr (HK.out.own 1).bs (by omega) (by rw [pack_length]; unfold nb; omega) (by omega) hs2 (by unfold soundX at hs1; cases sh <;> simp at hs1 <;> omega) (by unfold soundX at hs1; cases sh <;> simp at hs1 <;> omega) (tabGo HT1.out (Hbel.out.trans (Hb2.out.mono (show w1.heap.size ≤ WA.heap.size by omega))))
            rw [← hcn] at hg
            rw [hg] at hgc
            have HG := Lib.hid hgc
            obtain ⟨al, ac, rfl, -, hrw⟩ := Hall.out.row Tryd.eltXV
            obtain ⟨pa, oa, rfl, hca⟩ := hrw j _ e3
            have HUr := Lib.hid (And.intro hca hc)
            have hal : all.length = l.length := by rw [HAl.out, stsX_length]
            have Hal := Lib.hid hal
            have E1 := Lib.hid e1
            have E2 := Lib.hid e2
            have k0 : 0 ≤ (j : Int) := by omega
            have k1 : (j : Int) < l.length := by omega
            have k2 : (j : Int) < all.length := by omega
            have HCN := Lib.hid hCN
            have Hcn := Lib.hid hcn
            rw [← hC, ← hcn]
            clear hgc hg hC hS hE e0 e1 e2 e3 hrw hca hc hal hCN hcn hxk hs1 hvs
            go_wp2_with fail
            refine HG.out.mono ?_
            clear HG
            rintro e w6 ⟨rfl, b6⟩
            have hb7 : Below wr.heap.size wr (w6.alloc (.cells #[.bool th, .int .u64 tp, .int .u8 tl, .int .u8 tb] 27)) := on1 b6 (below_alloc _ _)
            replace HK := Lib.hid ((HK.out.go b6).box #[.bool th, .int .u64 tp, .int .u8 tl, .int .u8 tb] 27)
            replace Hb2 := Lib.hid (Hb2.out.trans (hb7.mono (by omega)))
            have hc := (hb7.cell (cell_lt HUr.out.2)).trans HUr.out.2
            have a0 := HUr.out.1 0 _ rfl
            have a1 := HUr.out.1 1 _ rfl
            have a2 := HUr.out.1 2 _ rfl
            have a3 := HUr.out.1 3 _ rfl
            replace a0 := (hb7.cell (cell_lt a0)).trans a0
            replace a1 := (hb7.cell (cell_lt a1)).trans a1
            replace a2 := (hb7.cell (cell_lt a2)).trans a2
            replace a3 := (hb7.cell (cell_lt a3)).trans a3
            rw [Nat.add_zero] at a0
            have z6 := b6.size
            obtain ⟨g7, hg7⟩ : ∃ g, g = w6.heap.size := ⟨_, rfl⟩
            obtain ⟨W7, hW7⟩ : ∃ W, W = w6.alloc (.cells #[.bool th, .int .u64 tp, .int .u8 tl, .int .u8 tb] 27) := ⟨_, rfl⟩
            have hsz7 : W7.heap.size = g7 + 1 := by rw [hW7, hg7]; simp
            go_upto_region 21 with fail
            rw [← hW7] at HK Hb2 hc a0 a1 a2 a3 ⊢
            rw [← hg7] at HK z6 ⊢
            clear hW7 hg7 hb7 b6 HUr r0 r1 r2 r3 r4 r5 r6 r7 v0 v1
            obtain ⟨⟨y0, y1, y2, y3⟩, -⟩ := (HK.out.blk 0).quad
            have hp7 := plus_cell W7
            have q1 : ((x : Int) == (x : Int)) = true := by simp
            refine wp_region_ext (by kernel_rfl) (by kernel_rfl) ?_
            repeat (go_big_quiet_step (fail))
            refine wpQuiet_nil ?_
            rintro w8 ⟨xx, rfl⟩
            have hpb := plus_below W7 xx
            replace HK := Lib.hid (HK.out.go hpb)
            replace Hb2 := Lib.hid (Hb2.out.trans (hpb.mono (by omega)))
            clear hp7 y0 y1 y2 y3 a0 a1 a2 a3 hc
            obtain ⟨⟨y0, y1, y2, y3⟩, -⟩ := (HK.out.blk 0).quad
            obtain ⟨⟨r0, r1, r2, r3⟩, r4, r5, r6, r7⟩ := (HK.out.blk 1).quad
            go_wp2_with fail
            go_roundw
            case measure => simp [intOf]; omega
            case rel =>
              refine ⟨j + 1, hlt, ?_, by go_num, ?_, ((((Hb2.out.setCell (Nat.le_refl _) _).setCell (Nat.le_refl _) _).setCell (Nat.le_refl _) _).setCell (Nat.le_refl _) _)⟩
              · rw [E1.out, List.length_append, ← Hcn.out, HCN.out, Hcn.out]
              · rw [E2.out]
                exact (HK.out.blk 1).set4 _ _ _ _
          · obtain rfl : j = l.length := by omega
            rw [List.take_length, ← HM.out]
            have q1 : ((M.length : Int) == (M.length : Int)) = true := by simp
            go_wp2_with fail
            go_ret
            refine ⟨by simp, t1.trans ((Hbel.out.trans (Hb2.out.mono (by omega))).mono t1.size)⟩

end Go.Proofs.YtgnppnjhecfjeaaDoor
