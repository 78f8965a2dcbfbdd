/- Joined: Bk36. -/
import Derived.Test.YtmcdollkmlcpbaaGreatDoorQ47
import Derived.Test.YtmcdollkmlcpbaaGreatDoorQ40
import Derived.Test.YtmcdollkmlcpbaaGreatDoorQ29
set_option linter.unusedSimpArgs false
set_option linter.unusedVariables false
set_option linter.unusedSimpArgs false
set_option linter.unusedVariables false
namespace Go.Proofs.YtmcdollkmlcpbaaGreatDoor
open Go.RowKit Go.Maps
set_option maxRecDepth 100000
theorem OwnR.raiseU {α : Type} {w : World} {b : Nat} {e : TypeId} {enc : α → List Value} {sz : Nat} {v : Value} {l : List α} (h : OwnR w 0 e enc sz v l) (hk : ∀ k, v.ownBlock = some k → b ≤ k) : OwnR w b e enc sz v l := by
 refine ⟨h.1, ?_⟩
 rcases h.2 with h1 | ⟨g, cap, cur, rfl, h2, h3, h4⟩
 ·exact .inl h1
 ·exact .inr ⟨g, cap, cur, rfl, hk g rfl, h3, h4⟩
def SrtO (w : World) (ks : List Nat) (e : Ending) (w' : World) : Prop := ∃ U c xs, e = .returned (.slice U xs.length c) ∧ xs.Perm ks ∧ xs.Pairwise (· ≤ ·) ∧ OwnR w' w.heap.size 34 encU 1 (.slice U xs.length c) xs ∧ Below w.heap.size w w'
set_option maxHeartbeats 4000000 in
theorem sortedU_any {α : Type} {vE : α → Value} (Bm b : Nat) (M : List (Nat × α)) (hM : M.length ≤ 1000) (w : World) (hB : Bm < w.heap.size)
  (hm : w.cell? ⟨Bm, 0, none⟩ = some (.map (some b))) (hMu : Mu vE w b M) :
  Calls Tryz.prog 31 #[.func (.func 51) #[] #[.pointer (some ⟨Bm, 0, none⟩)]] w (SrtO w (M.map Prod.fst)) := by
 have hcol := (callsIn_wide (n := 5)).1 (collectU_in 5 (by omega) Bm b M hM w hB hm hMu)
 have HC := Lib.hid hcol
 have HM := Lib.hid hM
 clear hm hMu hM hcol
 go_enter Tryz.func31, Tryz.ntmps31
 go_upto_region 2 with (go_at_call 49; refine HC.out.mono ?_; rintro e w1 ⟨v, xs, rfl, h1, h2, h3⟩)
 rcases row_cases (h1.mono (Nat.zero_le _)) with ⟨rfl, hx⟩ | ⟨g, n, c, rfl, hln⟩
 ·have HF := Lib.hid (And.intro hx (And.intro h2 (And.intro h3 h1)))
  have HS := Lib.hid (sort_nil w1)
  clear hx h2 h3 h1 HC
  go_wp2_with (go_at_call 50; refine HS.out.mono ?_; rintro e w2 ⟨rfl, hw2⟩)
  go_ret
  have hxs := HF.out.1
  exact ⟨none, 0, xs, by rw [hxs]; rfl, HF.out.2.1, by rw [hxs]; exact .nil, by rw [hxs]; exact OwnR.nil _ _ _ _ _, HF.out.2.2.1⟩
 ·have hS0 : Sep w.heap.size w w1 (thS g n c xs.toArray :: []) := (Sep.nil (Below.refl w.heap.size w) (Nat.le_refl _)).cons (t := thS g n c xs.toArray) h3 (h1.mono (Nat.zero_le _)) (fun k hk => by
   have := (World.ownsRow.lt h1 k hk).1
   omega)
  have hll : xs.length ≤ 1000 := by rw [h2.length_eq, List.length_map]; exact HM.out
  have HS := Lib.hid (sort_u32 hS0 (by omega))
  have HF := Lib.hid (And.intro h2 hln)
  clear h1 h2 h3 hln hS0 hll HC
  go_wp2_with (go_at_call 50; refine HS.out.mono ?_; rintro e w2 ⟨rfl, d', hS2, hso⟩)
  go_ret
  have hp : d'.toList.Perm xs := hso.1
  have hl2 : n = d'.toList.length := by rw [hp.length_eq]; exact HF.out.2
  subst hl2
  exact ⟨some ⟨g, 0, none⟩, c, d'.toList, rfl, hp.trans HF.out.1, hso.2, OwnR.raiseU (hS2.at_ (t := thS g d'.toList.length c d') 0 rfl) (fun k hk => (hS2.all (thS g d'.toList.length c d') List.mem_cons_self).2 k hk), hS2.b⟩
set_option maxHeartbeats 2000000 in
theorem bSeries_any {w : World} {X : Bl} (h : RdK w X) (ok : OkB X) : Calls Tryz.prog 15 #[prB X] w (SrtO w (X.D.M.map Prod.fst)) := by
 have hlen : X.M.length ≤ 1000 := by
  have h1 := ok.D.few
  have h2 := ok.D.mo2
  have h3 : X.D.M.length = X.M.length := by unfold Bl.D; simp
  omega
 have hks : X.D.M.map Prod.fst = X.M.map Prod.fst := by unfold Bl.D; simp [Function.comp_def]
 rw [hks]
 have C : w.cell? ⟨X.q, 2, none⟩ = some (.map (some X.b)) := h.blk.cell 2
 have b1 := below_alloc w (.cells #[.map (some X.b)] BMT)
 have HK := Lib.hid (keysU_any X.b w)
 have HS := Lib.hid (sortedU_any w.heap.size X.b X.M hlen (w.alloc (.cells #[.map (some X.b)] BMT)) (by rw [World.size_alloc]; omega) ((Blk.new w BMT #[.map (some X.b)]).cell 0) ((thMu prS X.b X.M).below h.mu b1))
 have Hb := Lib.hid b1
 clear hlen hks h ok b1
 go_enter Tryz.func15, Tryz.ntmps15
 go_wp2_with (first | (go_at_call 32; refine HK.out.mono ?_; rintro e w2 ⟨rfl, rfl⟩) | (go_at_call 31; refine HS.out.mono ?_; rintro e w3 ⟨U, c, xs, rfl, h2, h3, h4, h5⟩))
 go_ret
 exact ⟨U, c, xs, rfl, h2, h3, h4.mono (by rw [World.size_alloc]; omega), Hb.out.trans (h5.mono (by rw [World.size_alloc]; omega))⟩
end Go.Proofs.YtmcdollkmlcpbaaGreatDoor
