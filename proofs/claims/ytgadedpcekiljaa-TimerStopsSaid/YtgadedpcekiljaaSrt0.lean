/- slices.Sort at []uint32: the row as a thing, its reads and its stores. -/
import Derived.Test.YtgadedpcekiljaaSep
import Derived.Test.YtgadedpcekiljaaTail
import Derived.Sort.AssemblyPlain
import Derived.Deep.DeepCutAuto
set_option linter.unusedSimpArgs false
set_option linter.unusedVariables false
namespace Go.Proofs.Ytgadedpcekiljaa
open Go.RowKit
set_option maxRecDepth 100000

theorem srt_perm {B : Nat} {w0 w : World} {ts us : List Kt} (h : Sep B w0 w ts) (hp : ts.Perm us) : Sep B w0 w us := ⟨h.b, h.sz, fun t ht => h.all t (hp.mem_iff.2 ht), (hp.pairwise_iff (fun {x y} hxy k h1 h2 => hxy k h2 h1)).1 h.ap⟩
def encU (x : Nat) : List Value := [.int .u32 (x : Nat)]
theorem encU_flat (l : List Nat) : l.flatMap encU = l.map (fun x => Value.int .u32 ((x : Nat) : Int)) := by
  induction l with
  | nil => rfl
  | cons a l ih => rw [List.flatMap_cons, ih]; rfl
/-- a row of numbers of 32 bits -/
abbrev thS (g n c : Nat) (d : Array Nat) : Kt := thR 24 encU 1 (.slice (some ⟨g, 0, none⟩) n c) d.toList
section
variable {B : Nat} {w0 w w' : World} {ts : List Kt} {g n c : Nat} {d : Array Nat}
theorem ownU (h : Sep B w0 w (thS g n c d :: ts)) : ∃ cap, n = d.size ∧ w.ownsRow 0 24 1 (.slice (some ⟨g, 0, none⟩) n cap) n (d.toList.map (fun x => Value.int .u32 ((x : Nat) : Int))) := by
  have h1 : OwnR w 0 24 encU 1 (.slice (some ⟨g, 0, none⟩) n c) d.toList := h.at_ 0 rfl
  have h2 := h1
  rcases h1.2 with ⟨h', _⟩ | ⟨g', cap', cur, h', hb, hg, hnc, hcm, hcs, htake⟩
  · simp at h'
  · injection h' with e1 e2 e3
    unfold OwnR at h2
    rw [encU_flat] at h2
    have e4 : n = d.size := by rw [e2]; simp
    refine ⟨c, e4, ?_⟩
    rw [show d.toList.length = n by simp [e4]] at h2
    exact h2
theorem srt_len (h : Sep B w0 w (thS g n c d :: ts)) : n = d.size := (ownU h).elim fun _ h => h.1
theorem srt_set (h : Sep B w0 w (thS g n c d :: ts)) (i x : Nat) : Sep B w0 (w.setCell ⟨g, i, none⟩ (.int .u32 (x : Nat))) (thS g n c (d.setIfInBounds i x) :: ts) := by
  have h1 : OwnR w 0 24 encU 1 (.slice (some ⟨g, 0, none⟩) n c) d.toList := h.at_ 0 rfl
  have hn := srt_len h
  refine h.call 0 rfl (Tou.set g i _ rfl) ?_ (fun k hk => .inl hk)
  show OwnR _ 0 24 encU 1 (.slice (some ⟨g, 0, none⟩) n c) (d.setIfInBounds i x).toList
  unfold OwnR at h1 ⊢
  rw [encU_flat] at h1 ⊢
  rw [show d.toList.length = n by simp [hn]] at h1
  rw [show (d.setIfInBounds i x).toList.length = n by simp [hn], Array.toList_setIfInBounds, List.map_set]
  exact (World.ownsRow.stored h1 i _).1
theorem srt_swp (h : Sep B w0 w (thS g n c d :: ts)) (i j : Nat) : Sep B w0 ((w.setCell ⟨g, i, none⟩ (.int .u32 (d[j]! : Nat))).setCell ⟨g, j, none⟩ (.int .u32 (d[i]! : Nat))) (thS g n c (Go.Sort.swp d i j) :: ts) := srt_set (srt_set h i _) j _
theorem srt_cell (h : Sep B w0 w (thS g n c d :: ts)) {i : Nat} (hi : i < d.size) : w.cell? ⟨g, i, none⟩ = some (.int .u32 (d[i]! : Nat)) := by
  obtain ⟨cap, hn, h1⟩ := ownU h
  rcases h1.2 with ⟨h', _⟩ | ⟨g', cap', cur, h', hb, hg, hnc, hcm, hcs, htake⟩
  · simp at h'
  · injection h' with e1 e2 e3
    injection e1 with e1
    injection e1 with e1
    subst e1
    have hci : cur[i]? = some (.int .u32 (d[i]! : Nat)) := by
      have h5 : (cur.toList.take (n * 1))[i]? = (d.toList.map (fun x => Value.int .u32 ((x : Nat) : Int)))[i]? := by rw [htake]
      rw [List.getElem?_take_of_lt (by omega), List.getElem?_map] at h5
      rw [← Array.getElem?_toList, h5, Array.getElem?_toList, Array.getElem?_eq_getElem hi, getElem!_pos d i hi]
      rfl
    unfold World.cell?
    rw [hg]
    exact hci
theorem srt_froz (h : Sep B w0 w (thS g n c d :: ts)) (i : Nat) : w.frozen? ⟨g, i, none⟩ = false := by
  obtain ⟨cap, hn, h1⟩ := ownU h
  rcases h1.2 with ⟨h', _⟩ | ⟨g', cap', cur, h', hb, hg, hnc, hcm, hcs, htake⟩
  · simp at h'
  · injection h' with e1 e2 e3
    injection e1 with e1
    injection e1 with e1
    subst e1
    unfold World.frozen?
    rw [hg]
    rfl
end

end Go.Proofs.Ytgadedpcekiljaa
