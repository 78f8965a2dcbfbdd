/- Contracts of package bit: write. -/
import Derived.Test.YtfooggamdbdniaaDoorBit1
import Derived.Test.YtfooggamdbdniaaDoorOwn
namespace Go.Proofs.YtfooggamdbdniaaDoor
open Go.RowKit

theorem write_end {w wr : World} {base g n cap : Nat} {l l1 : List UInt8} {a v d t x r m q k : Nat} (hown : OwnB wr base (.slice (some ⟨g, 0, none⟩) n cap) l1) (hg : base ≤ g) (hbel : Below base w wr) (hw : Wrote l l1 a v d t)
    (hz : ∀ i, a ≤ i → i < a + d → bt l i = false) (hx : x = a + t) (hr : r = d - t) (hq : (8 : Int) - (x : Int) % 8 = q) (hn : m ≤ q) (hnr : m ≤ r) (hl : x / 8 < l1.length) {V : Int} (hV : V = (wrByte l1[x / 8] v r m q : Int)) :
    OwnB ((wr.drewN k).setCell ⟨g, x / 8, none⟩ (.int .u8 V)) base (.slice (some ⟨g, 0, none⟩) n cap) (l1.set (x / 8) (UInt8.ofNat (wrByte l1[x / 8] v r m q))) ∧
    Wrote l (l1.set (x / 8) (UInt8.ofNat (wrByte l1[x / 8] v r m q))) a v d (t + m) ∧ Below base w ((wr.drewN k).setCell ⟨g, x / 8, none⟩ (.int .u8 V)) := by
  have hlt := wrByte_lt l1[x / 8] v r m q hn (by omega)
  have e : Value.int .u8 V = bv (UInt8.ofNat (wrByte l1[x / 8] v r m q)) := by rw [hV, bv, UInt8.toNat_ofNat_of_lt' hlt]
  rw [e]
  exact ⟨(show OwnB (wr.drewN k) base (.slice (some ⟨g, 0, none⟩) n cap) l1 from hown).set _ _, hw.step hz hx hr (by omega) hn hnr hl, (below_drewN hbel _).setCell hg _⟩

set_option maxHeartbeats 1000000 in
theorem write_any (base g cap : Nat) (l : List UInt8) (a v d : Nat) (w : World) (ho : OwnB w base (.slice (some ⟨g, 0, none⟩) l.length cap) l) (hg : base ≤ g) (hgw : g < w.heap.size) (hl : l.length ≤ 2199023255552) (hd : d ≤ 64) (had : a + d ≤ 8 * l.length)
    (hv : v < 18446744073709551616) (hz : ∀ i, a ≤ i → i < a + d → bt l i = false) :
    Calls Tryd.prog 45 #[.slice (some ⟨g, 0, none⟩) l.length cap, .int .i64 a, .int .u64 v, .int .i64 d] w fun e w' => e = .returned (.tuple #[]) ∧ 
      ∃ l', OwnB w' base (.slice (some ⟨g, 0, none⟩) l.length cap) l' ∧ Wrote l l' a v d d ∧ Below base w w' := by
  have HZ := Lib.hid hz
  clear hz
  go_enter Tryd.func45, Tryd.ntmps45
  go_wp2
  go_loopw [1, 3] (fun x r wr => ∃ (t : Nat) (l1 : List UInt8), t ≤ d ∧ x = .int .i64 ((a + t : Nat) : Int) ∧ r = .int .i64 ((d - t : Nat) : Int) ∧ OwnB wr base (.slice (some ⟨g, 0, none⟩) l.length cap) l1 ∧ Wrote l l1 a v d t ∧ Below base w wr)
    (fun _ r _ => (intOf r).toNat)
  case atStart => exact ⟨0, l, Nat.zero_le _, rfl, rfl, ho, Wrote.zero _ _ _ _, Below.refl _ _⟩
  case round =>
    obtain ⟨t, l1, ht, rfl, rfl, hown, hw, hbel⟩ := hrel
    have HW := Lib.hid hw
    clear hw
    by_cases hlt : t < d
    · obtain ⟨x, hx⟩ : ∃ x, x = a + t := ⟨_, rfl⟩
      obtain ⟨r, hr⟩ : ∃ r, r = d - t := ⟨_, rfl⟩
      rw [← hx, ← hr]
      have hlen := HW.out.1
      have hx8 : x / 8 < l1.length := by omega
      have hx8' : x / 8 < l.length := by omega
      have hr0 : 0 < r := by omega
      have hxb : x ≤ 17592186044416 := by omega
      have hr64 : r ≤ 64 := by omega
      have HX := Lib.hid hx
      have HR := Lib.hid hr
      clear hx hr hlen
      have hc2 := hown.cell (x / 8) hx8
      have hfr := hown.frozen (x / 8)
      have hix : (x : Int) / 8 < l.length := by omega
      obtain ⟨q, hq⟩ : ∃ q : Nat, (8 : Int) - (x : Int) % 8 = (q : Int) := ⟨8 - x % 8, by omega⟩
      have hq1 : 1 ≤ q ∧ q ≤ 8 := by omega
      have HQ := Lib.hid hq
      clear hq
      by_cases hm : q ≤ r
      · have hmI : (8 : Int) - (x : Int) % 8 ≤ r := by rw [HQ.out]; omega
        go_wp2
        rw [HQ.out]
        clear hmI
        go_quiet (fail)
        go_wp2
        go_region
        go_wp2
        go_roundw
        case measure => simp [intOf]; omega
        case rel =>
          have hv1 := wr_val l1[x / 8] v r q q (Nat.le_refl _) hq1.2
          rw [Nat.sub_self, Int.pow_zero, Int.mul_one, ← nat_shr] at hv1
          obtain ⟨h1, h2, h3⟩ := write_end (k := nq + 1) hown hg hbel HW.out HZ.out HX.out HR.out HQ.out (Nat.le_refl _) hm hx8 hv1
          exact ⟨t + q, _, by have := HR.out; omega, by rw [HX.out]; go_num, by have := HR.out; congr 1; omega, h1, h2, h3⟩
      · have hmI : ¬ (8 : Int) - (x : Int) % 8 ≤ r := by rw [HQ.out]; omega
        go_wp2
        rw [HQ.out]
        clear hmI
        have hqr : (0 : Int) ≤ (q : Int) - r := by omega
        go_quiet (fail)
        go_wp2
        go_region
        go_wp2
        go_roundw
        case measure => simp [intOf]; omega
        case rel =>
          have hv1 := wr_val l1[x / 8] v r r q (by omega) hq1.2
          rw [Nat.sub_self, Nat.pow_zero, Nat.div_one] at hv1
          obtain ⟨h1, h2, h3⟩ := write_end (k := nq + 1) hown hg hbel HW.out HZ.out HX.out HR.out HQ.out (by omega) (Nat.le_refl _) hx8 hv1
          exact ⟨t + r, _, by have := HR.out; omega, by rw [HX.out]; go_num, by have := HR.out; congr 1; omega, h1, h2, h3⟩
    · obtain rfl : t = d := by omega
      go_wp2
      go_end0
      exact ⟨rfl, l1, hown, HW.out, hbel⟩

theorem write_n (base g cap n : Nat) (l : List UInt8) (hn : n = l.length) (a v d : Nat) (w : World) (ho : OwnB w base (.slice (some ⟨g, 0, none⟩) n cap) l) (hl : l.length ≤ 2199023255552) (hd : d ≤ 64) (had : a + d ≤ 8 * l.length)
    (hv : v < 18446744073709551616) (hz : ∀ i, a ≤ i → i < a + d → bt l i = false) :
    Calls Tryd.prog 45 #[.slice (some ⟨g, 0, none⟩) n cap, .int .i64 a, .int .u64 v, .int .i64 d] w fun e w' => e = .returned (.tuple #[]) ∧ 
      ∃ l', OwnB w' base (.slice (some ⟨g, 0, none⟩) n cap) l' ∧ Wrote l l' a v d d ∧ Below base w w' := by
  subst hn
  exact write_any base g cap l a v d w ho ho.lt.1 ho.lt.2 hl hd had hv hz

end Go.Proofs.YtfooggamdbdniaaDoor
