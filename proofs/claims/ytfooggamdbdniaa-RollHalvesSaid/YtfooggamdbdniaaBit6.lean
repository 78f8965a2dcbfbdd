/- Contracts of package bit: Cut. -/
import Derived.Test.YtfooggamdbdniaaBit1
import Derived.Test.YtfooggamdbdniaaOwn
import Derived.Test.YtfooggamdbdniaaMathC
namespace Go.Proofs.Ytfooggamdbdniaa
open Go.RowKit

theorem cut_v1 (x : UInt8) (s : Nat) : ((x.toNat : Int) * 2 ^ s % 256) = ((x.toNat * 2 ^ s % 256 : Nat) : Int) := by
  rw [Int.natCast_emod, Int.natCast_mul, Int.natCast_pow]; rfl

/-- no byte follows -/
theorem cut_last {l : List UInt8} {a k : Nat} (h : a / 8 + k < l.length) (hn : ¬ a / 8 + k + 1 < l.length) : cutByte l (a / 8) (a % 8) k = (l[a / 8 + k]).toNat * 2 ^ (a % 8) % 256 := by
  unfold cutByte
  rw [List.getD_eq_getElem?_getD, List.getElem?_eq_getElem h, List.getD_eq_getElem?_getD, List.getElem?_eq_none (by omega)]
  simp

theorem cut_both {l : List UInt8} {a k : Nat} (h : a / 8 + k < l.length) (hn : a / 8 + k + 1 < l.length) :
    bits .or .u8 ((l[a / 8 + k].toNat : Int) * 2 ^ (a % 8) % 256) ((l[a / 8 + k + 1].toNat : Int) / 2 ^ (8 - a % 8)) = (cutByte l (a / 8) (a % 8) k : Int) := by
  rw [cut_v1, nat_shr, or_u8 _ _ (Nat.mod_lt _ (by decide)) (Nat.lt_of_le_of_lt (Nat.div_le_self _ _) (UInt8.toNat_lt _))]
  unfold cutByte
  rw [List.getD_eq_getElem?_getD, List.getElem?_eq_getElem h, List.getD_eq_getElem?_getD, List.getElem?_eq_getElem hn]
  rfl

theorem cut_b1 (x : UInt8) (s : Nat) : Value.int .u8 ((x.toNat : Int) * 2 ^ s % 256) = bv (UInt8.ofNat (x.toNat * 2 ^ s % 256)) := by
  rw [cut_v1, bv, UInt8.toNat_ofNat_of_lt' (Nat.mod_lt _ (by decide))]
theorem cut_b2 {l : List UInt8} {a k : Nat} (h : a / 8 + k < l.length) (hn : a / 8 + k + 1 < l.length) :
    Value.int .u8 (bits .or .u8 ((l[a / 8 + k].toNat : Int) * 2 ^ (a % 8) % 256) ((l[a / 8 + k + 1].toNat : Int) / 2 ^ (8 - a % 8))) = bv (UInt8.ofNat (cutByte l (a / 8) (a % 8) k)) := by
  rw [cut_both h hn, bv, UInt8.toNat_ofNat_of_lt' (cutByte_lt _ _ _ _)]
theorem OwnB.set2 {w : World} {base g n cap : Nat} {l : List UInt8} (h : OwnB w base (.slice (some ⟨g, 0, none⟩) n cap) l) (i : Nat) (x y : UInt8) :
    OwnB ((w.setCell ⟨g, i, none⟩ (bv x)).setCell ⟨g, i, none⟩ (bv y)) base (.slice (some ⟨g, 0, none⟩) n cap) (l.set i y) := by
  have := (h.set i x).set i y
  rwa [List.set_set] at this
theorem mask_val (x : UInt8) (u : Nat) : Value.int .u8 (bits .and .u8 (x.toNat : Int) (255 * 2 ^ (8 - u) % 256)) = bv (UInt8.ofNat (maskByte x u)) := by
  have e : ((255 : Int) * 2 ^ (8 - u) % 256) = ((255 * 2 ^ (8 - u) % 256 : Nat) : Int) := by rw [Int.natCast_emod, Int.natCast_mul, Int.natCast_pow]; rfl
  rw [e, (bits_nat .u8 8 (by decide) (fun n h0 h1 => wraps_u8 n h0 h1) x.toNat _ x.toNat_lt (Nat.mod_lt _ (by decide))).1, bv, UInt8.toNat_ofNat_of_lt' (maskByte_lt _ _)]
  rfl

theorem bytesOf_of (d : Int) (n : Nat) (hd : d = n) (w : World) (hn : n ≤ 9223372036854775807) :
    Calls Try.prog 26 #[.int .i64 d] w fun e w' => e = .returned (.int .i64 (nb n)) ∧ w = w' := by
  subst hd; exact bytesOf_any n w (by omega)

set_option maxHeartbeats 2000000 in
theorem cut_ok (A : Option Addr) (c : Nat) (l : List UInt8) (m a b : Nat) (w : World) (hb : Bs w A l) (hl : l.length ≤ 1099511627776) (hs : soundB l m = true) (hab : a ≤ b) (hbm : b ≤ m) :
    Calls Try.prog 18 #[.agg #[.slice A l.length c, .int .i64 m], .int .i64 a, .int .i64 b] w fun e w' =>
      ∃ A' c', e = .returned (.tuple #[.agg #[.slice A' (pack (cutl l a (b - a))).length c', .int .i64 ((b - a : Nat) : Int)], .int .u16 0]) ∧ OwnB w' w.heap.size (.slice A' (pack (cutl l a (b - a))).length c') (pack (cutl l a (b - a))) ∧ Below w.heap.size w w' := by
  have hb0 := hb.below (below_alloc2 w (.cells #[.slice A l.length c, .int .i64 m] 29) (.cells #[.slice none 0 0, .int .i64 0] 29))
  obtain ⟨m', hm, hm8, -⟩ := sound_nat hs
  obtain rfl : m = m' := by omega
  have hlm : l.length ≤ maxLen := by unfold maxLen; omega
  obtain ⟨n, hn⟩ : ∃ n : Nat, n = b - a := ⟨_, rfl⟩
  have hnI : (b : Int) - a = (n : Int) := by omega
  obtain ⟨N, hN⟩ : ∃ N, N = nb n := ⟨_, rfl⟩
  have hN8 : n ≤ 8 * N ∧ 8 * N ≤ n + 7 := by rw [hN]; unfold nb; omega
  have hplen : (pack (cutl l a n)).length = N := by rw [pack_length, cutl_length, hN]
  have hNl : N ≤ l.length := by omega
  rw [← hn]
  have HP := Lib.hid hplen
  have HN := Lib.hid hN
  have Hn := Lib.hid hnI
  have HS := Lib.hid hs
  have hidx : ∀ k, k < N → a / 8 + k < l.length := fun k hk => by omega
  have HI := Lib.hid hidx
  clear hs hm hnI hN hplen hidx hn
  have h1 : decide ((a : Int) < 0) = false := by simp
  have h2 : decide (b < a) = false := by simp; omega
  have h3 : decide (m < b) = false := by simp; omega
  go_enter Try.func18, Try.ntmps18
  go_wp2_with (go_at_call 17; refine (sound_any A c l m _ hb0 (by omega) hlm).mono ?_; rw [HS.out]; rintro e w1 ⟨rfl, hb1⟩; obtain ⟨c0, c1, r0, r1, f0, f1, hsz⟩ := kept2 hb1 (by simp))
  rw [Hn.out]
  refine (bytesOf_of _ n rfl _ (by omega)).mono ?_
  rw [← HN.out]
  rintro e w2 ⟨rfl, rfl⟩
  go_wp2_with (at_make; go_must (refine mkB _ rfl (.tmp 36) (.tmp 36) rfl (w.heap.size + 2) N rfl rfl (by omega) hsz ?_); intro w3 hown3 hb3; clear c0 c1 r0 r1 f0 f1; have hb13 := hb1.trans (hb3.mono (by simpa using hsz)); obtain ⟨c0, c1, r0, r1, f0, f1, hsz3⟩ := kept2 hb13 (by simp))
  have hgw : w.heap.size + 2 ≤ w1.heap.size := hsz
  go_wp2
  go_loopw [44] (fun q wr => ∃ (k : Nat) (bb : List UInt8), k ≤ N ∧ q = .int .i64 k ∧ OwnB wr (w.heap.size + 2) (.slice (some ⟨w1.heap.size, 0, none⟩) N N) bb ∧ Hid (CutAt l a N k bb) ∧
      Below (w.heap.size + 2) ((w.alloc (.cells #[.slice A l.length c, .int .i64 m] 29)).alloc (.cells #[.slice none 0 0, .int .i64 0] 29)) wr)
    (fun q _ => N - (intOf q).toNat)
  case atStart => exact ⟨0, _, Nat.zero_le _, rfl, hown3, CutAt.zero l a N, by simpa using hb13⟩
  case round =>
    obtain ⟨k, bb, hk, rfl, hown, HC, hbel⟩ := hrel
    clear c0 c1 r0 r1 f0 f1 hsz3 hown3 hb3 hb13
    obtain ⟨c0, c1, r0, r1, f0, f1, hszr⟩ := kept2 hbel (by omega)
    have hbl := HC.out.1
    have hblN : N ≤ bb.length := by omega
    clear hbl
    by_cases hlt : k < N
    · have hki := HI.out k hlt
      obtain ⟨p, o, rfl, hpl, hc⟩ := hb.at_ (show 0 < l.length by omega)
      have hcw : ∀ j (hj : j < l.length), wr.cell? ⟨p, o + j, none⟩ = some (bv l[j]) := fun j hj => by
        rw [hbel.cell (show p < w.heap.size + 2 by omega), World.cell?_alloc_lt _ _ _ (by simp; omega), World.cell?_alloc_lt _ _ _ hpl]
        exact hc j hj
      have hc1 := hcw _ hki
      have hx := hown.cell k (by omega)
      have hfr := hown.frozen k
      have fx0 := fun (W : World) (u : Value) => World.cell?_setCell_other W ⟨w1.heap.size, k, none⟩ ⟨w.heap.size, 0, none⟩ u (by intro e; injection e with e; omega)
      have fx1 := fun (W : World) (u : Value) => World.cell?_setCell_other W ⟨w1.heap.size, k, none⟩ ⟨w.heap.size, 1, none⟩ u (by intro e; injection e with e; omega)
      have fp := fun (W : World) (u : Value) (j : Nat) => World.cell?_setCell_other W ⟨w1.heap.size, k, none⟩ ⟨p, j, none⟩ u (by intro e; injection e with e; omega)
      have hkI : (a : Int) / 8 + k < l.length := by omega
      by_cases hn : a / 8 + k + 1 < l.length
      · have hnI : (a : Int) / 8 + k + 1 < l.length := by omega
        have hc2 := hcw _ hn
        clear hcw hc
        go_wp2
        go_region
        go_wp2
        go_roundw
        case measure => simp [intOf]; omega
        case rel =>
          rw [cut_b1, cut_b2 hki hn]
          exact ⟨k + 1, _, by omega, by go_num, (hown.set2 _ _ _).drew, HC.out.step hlt, ((hbel.setCell (show w.heap.size + 2 ≤ w1.heap.size from hgw) _).setCell (show w.heap.size + 2 ≤ w1.heap.size from hgw) _).drew⟩
      · have hnI : ¬ (a : Int) / 8 + k + 1 < l.length := by omega
        clear hcw hc
        go_wp2
        go_roundw
        case measure => simp [intOf]; omega
        case rel =>
          rw [cut_b1, ← cut_last hki hn]
          exact ⟨k + 1, _, by omega, by go_num, hown.set _ _, HC.out.step hlt, hbel.setCell (show w.heap.size + 2 ≤ w1.heap.size from hgw) _⟩
    · have hkN : N ≤ k := by omega
      by_cases h8 : n % 8 = 0
      · have hg8 : (((n : Int) % 8) != 0) = false := by simp; omega
        go_wp2
        obtain rfl : k = N := by omega
        have e : bb = pack (cutl l a n) := by have h := HC.out; rw [HN.out] at h; exact cut_even h h8
        refine bodyPost_ret (v := .tuple #[.agg #[.slice (some ⟨w1.heap.size, 0, none⟩) k k, .int .i64 n], .int .u16 0]) (by simp [results, Try.results18, go_sem, r0, r1]) rfl ?_
        rw [HP.out, ← e]
        have hne := hown.ne (show w.heap.size + 1 < w.heap.size + 2 by omega)
        exact ⟨_, _, rfl, ((hown.mono (by omega)).far hne _).far hne _, (((below_alloc2 _ _ _).trans (hbel.mono (by simp))).setCell (by simp) _).setCell (by simp) _⟩
      · have hg8 : (((n : Int) % 8) != 0) = true := by simp; omega
        have hN0 : 0 < N := by omega
        have hx := hown.cell (N - 1) (by omega)
        have hfr := hown.frozen (N - 1)
        obtain rfl : k = N := by omega
        have e : bb.set (k - 1) (UInt8.ofNat (maskByte bb[k - 1] (n % 8))) = pack (cutl l a n) := by
          have h := HC.out
          rw [HN.out] at h
          have h2 := cut_odd h h8 (bb[k - 1]'(by omega)) (by rw [← HN.out]; exact List.getElem?_eq_getElem (by omega))
          rwa [← HN.out] at h2
        have HE := Lib.hid e
        clear e
        go_wp2
        go_region
        go_wp2
        rw [mask_val]
        have hne := hown.ne (show w.heap.size + 1 < w.heap.size + 2 by omega)
        have fx0 := fun (W : World) (u : Value) => World.cell?_setCell_other W ⟨w1.heap.size, k - 1, none⟩ ⟨w.heap.size + 1, 0, none⟩ u (by intro e; injection e with e; omega)
        refine bodyPost_ret (v := .tuple #[.agg #[.slice (some ⟨w1.heap.size, 0, none⟩) k k, .int .i64 n], .int .u16 0]) (by simp [results, Try.results18, go_sem, r0, r1]) rfl ?_
        rw [HP.out, ← HE.out]
        have ho := (hown.set (k - 1) (UInt8.ofNat (maskByte bb[k - 1] (n % 8)))).drew
        have hne2 := ho.ne (show w.heap.size + 1 < w.heap.size + 2 by omega)
        exact ⟨_, _, rfl, ((ho.mono (by omega)).far hne2 _).far hne2 _, (((below_alloc2 _ _ _).trans ((hbel.setCell (show w.heap.size + 2 ≤ w1.heap.size from hgw) _).drew.mono (by simp))).setCell (by simp) _).setCell (by simp) _⟩

set_option maxHeartbeats 1000000 in
theorem cut_err (A : Option Addr) (c : Nat) (l : List UInt8) (n a b : Int) (w : World) (hb : Bs w A l) (hn : -9223372036854775808 ≤ n ∧ n ≤ 9223372036854775807) (hl : l.length ≤ 1099511627776)
    (ha : -9223372036854775808 ≤ a ∧ a ≤ 9223372036854775807) (hwd : -9223372036854775808 ≤ b ∧ b ≤ 9223372036854775807) (k : Nat) (hk : (cutSpec l n a b).2.2 = k) (hk0 : k ≠ 0) :
    Calls Try.prog 18 #[.agg #[.slice A l.length c, .int .i64 n], .int .i64 a, .int .i64 b] w fun e w' =>
      ∃ A' c', e = .returned (.tuple #[.agg #[.slice A' 0 c', .int .i64 0], .int .u16 k]) ∧ OwnB w' w.heap.size (.slice A' 0 c') [] ∧ Below w.heap.size w w' := by
  have hb0 := hb.below (below_alloc2 w (.cells #[.slice A l.length c, .int .i64 n] 29) (.cells #[.slice none 0 0, .int .i64 0] 29))
  by_cases hs : soundB l n = false
  · obtain rfl : k = 11 := by rw [← hk]; simp [cutSpec, hs]
    have HS := Lib.hid hs
    clear hs hk
    go_enter Try.func18, Try.ntmps18
    go_wp2_with (go_at_call 17; refine (sound_any A c l n _ hb0 hn (by unfold maxLen; omega)).mono ?_; rw [HS.out]; rintro e w1 ⟨rfl, hb1⟩; obtain ⟨c0, c1, r0, r1, f0, f1, hsz⟩ := kept2 hb1 (by simp))
    refine bodyPost_ret (v := .tuple #[.agg #[.slice none 0 0, .int .i64 0], .int .u16 11]) (by simp [results, Try.results18, go_sem, r0, r1]) rfl ?_
    exact ⟨_, _, rfl, OwnB.nil _ _, (((below_alloc2 _ _ _).trans (hb1.mono (by simp; omega))).setCell (by simp) _).setCell (by simp) _⟩
  · have HS := Lib.hid (show soundB l n = true by simpa using hs)
    have he : a < 0 ∨ b < a ∨ n < b := by
      apply Classical.byContradiction; intro he
      exact hk0 (by rw [← hk]; simp [cutSpec, hs, he])
    obtain rfl : k = 10 := by rw [← hk]; simp [cutSpec, hs, he]
    obtain ⟨m, rfl, hm8, -⟩ := sound_nat (show soundB l n = true by simpa using hs)
    clear hs hk
    have key : ∀ q q', decide (a < 0) = q → decide (b < a) = q' → (q = false → q' = false → (m : Int) < b) → 
        Calls Try.prog 18 #[.agg #[.slice A l.length c, .int .i64 m], .int .i64 a, .int .i64 b] w fun e w' =>
          ∃ A' c', e = .returned (.tuple #[.agg #[.slice A' 0 c', .int .i64 0], .int .u16 (10 : Nat)]) ∧ OwnB w' w.heap.size (.slice A' 0 c') [] ∧ Below w.heap.size w w' := by
      intro q q' h1 h2 h3
      cases q <;> cases q'
      all_goals
        try have hg := h3 rfl rfl
        clear h3 he
        go_enter Try.func18, Try.ntmps18
        go_wp2_with (go_at_call 17; refine (sound_any A c l m _ hb0 hn (by unfold maxLen; omega)).mono ?_; rw [HS.out]; rintro e w1 ⟨rfl, hb1⟩; obtain ⟨c0, c1, r0, r1, f0, f1, hsz⟩ := kept2 hb1 (by simp))
        refine bodyPost_ret (v := .tuple #[.agg #[.slice none 0 0, .int .i64 0], .int .u16 10]) (by simp [results, Try.results18, go_sem, r0, r1]) rfl ?_
        exact ⟨_, _, rfl, OwnB.nil _ _, (((below_alloc2 _ _ _).trans (hb1.mono (by simp; omega))).setCell (by simp) _).setCell (by simp) _⟩
    exact key _ _ rfl rfl (by simp; omega)

theorem cut_any (A : Option Addr) (c : Nat) (l : List UInt8) (n a b : Int) (w : World) (hb : Bs w A l) (hn : -9223372036854775808 ≤ n ∧ n ≤ 9223372036854775807) (hl : l.length ≤ 1099511627776)
    (ha : -9223372036854775808 ≤ a ∧ a ≤ 9223372036854775807) (hwd : -9223372036854775808 ≤ b ∧ b ≤ 9223372036854775807) :
    Calls Try.prog 18 #[.agg #[.slice A l.length c, .int .i64 n], .int .i64 a, .int .i64 b] w fun e w' =>
      ∃ A' c', e = .returned (.tuple #[.agg #[.slice A' (cutSpec l n a b).1.length c', .int .i64 (cutSpec l n a b).2.1], .int .u16 (cutSpec l n a b).2.2]) ∧ OwnB w' w.heap.size (.slice A' (cutSpec l n a b).1.length c') (cutSpec l n a b).1 ∧ Below w.heap.size w w' := by
  by_cases h0 : (cutSpec l n a b).2.2 = 0
  · unfold cutSpec at h0
    split at h0
    · simp at h0
    · split at h0
      · simp at h0
      · rename_i hs he
        obtain ⟨m, rfl, hm8, -⟩ := sound_nat (show soundB l n = true by simpa using hs)
        obtain ⟨a, rfl⟩ := Int.eq_ofNat_of_zero_le (show 0 ≤ a by omega)
        obtain ⟨b, rfl⟩ := Int.eq_ofNat_of_zero_le (show 0 ≤ b by omega)
        rw [show cutSpec l m a b = (pack (cutl l a (b - a)), b - a, 0) from by simp only [cutSpec, if_neg hs, if_neg he, Int.toNat_natCast, show ((b : Int) - a).toNat = b - a by omega]]
        exact cut_ok A c l m a b w hb hl (by simpa using hs) (by omega) (by omega)
  · have h1 : cutSpec l n a b = ([], 0, (cutSpec l n a b).2.2) := by
      unfold cutSpec at h0 ⊢
      split
      · rfl
      · split
        · rfl
        · rename_i hs he; simp [hs, he] at h0
    have h2 := cut_err A c l n a b w hb hn hl ha hwd _ rfl h0
    rw [h1]
    exact h2

end Go.Proofs.Ytfooggamdbdniaa
