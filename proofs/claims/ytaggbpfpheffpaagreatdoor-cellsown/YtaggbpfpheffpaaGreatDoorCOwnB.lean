/- Put of bytes that are turned behind it: the cells stay. -/
import Derived.Test.YtaggbpfpheffpaaGreatDoorCOwnA
import Derived.Test.YtaggbpfpheffpaaGreatDoorCManW
namespace Go.Proofs.YtaggbpfpheffpaaGreatDoor
open Go.RowKit Go.Maps

theorem Hv.high {N : Nat} {w w' : World} {b : Nat} {f : Int → List Nat} {c : Nat} (h : Hv N w b f c) (hk : ∀ k, N ≤ k → w'.heap[k]? = w.heap[k]?) : Hv N w' b f c := by
  obtain ⟨h1, D, ⟨es, cl, e1, e2⟩, h2, h3⟩ := h
  refine ⟨h1, D, ⟨es, cl, (hk b h1).trans e1, e2⟩, h2, fun x => (h3 x).kept fun v hv => ⟨own_kept hv.1 fun k hk' => hk k (hv.1.lt k hk').1, hv.2⟩⟩

theorem oput {base : Nat} {w0 : World} {cp l p : Nat} {g a : Addr} (x : Int) (hx : 0 ≤ x ∧ x < 8) (bs : List Nat) (hbl : bs.length ≤ 12000) (ao : Option Addr) (cap : Nat) (hz : 4 ≤ base) (w2 U : World) (h : Good base w0 w2 cp l p g a noF 0) (hU : Below w2.heap.size w2 U) (hat : CAt U ao [(x, bs)])
    (M : Nat) (cur : Array Value) (hM : w2.heap.size ≤ M) (hMU : U.heap[M]? = some (.cells cur 5 (0, 0))) :
    Calls Tryz.prog 14 #[.pointer (some ⟨cp, 0, none⟩), .slice ao 1 cap] U fun e w4 => e = .returned (.int .i64 0) ∧ w4.heap[M]? = some (.cells cur 5 (0, 0)) ∧ ∀ v, Good base w0 (w4.setCell ⟨M, 0, none⟩ v) cp l p g a (setF noF [(x, bs)]) 1 := by
  have hgU := h.below hU
  obtain ⟨b, c, q, n, ops, h1, h2, h3, h4, h5, h6, h7, h8, h9, h10⟩ := h
  have hFl : ∀ y, (setF noF [(x, bs)] y).length ≤ 12000 := setF_len h5 (fun c hc => by simp at hc; subst hc; exact hbl)
  have hrep : (Ls 400000 (rows noF) n ops).replace (cats (rows (setF noF [(x, bs)]))) = (0, Ls 400000 (rows (setF noF [(x, bs)])) (takes (rows (setF noF [(x, bs)]))) (ops + 1)) := ls_replace (Nat.le_trans (takes_rows hFl) (by decide))
  have hp := put_new g a ao 1 cap [(x, bs)] rfl (by decide) U (h1.below hU) (by omega) (h2.below hU) (h8.below hU) (Nat.le_trans h10 hU.size) (by simp only [Ls]; omega) (by simp [Ls]) hat (fun c hc => by simp at hc; subst hc; exact wf_small64 (by show -1000000 ≤ x ∧ x ≤ 1000000; omega)) h5 (refuse_one hx hbl) (fun _ => rfl) _ hrep _ rfl
  refine (Put_of cp ao 1 cap (by decide) U 0 _ hp).mono ?_
  rintro e w4 ⟨rfl, q', b', c', l', k', f', hh⟩
  have hM4 := hgU.bytes hMU k'
  refine ⟨rfl, hM4, fun v => ?_⟩
  have hMl := blk_lt' hMU
  have kA : Kept base (fun k => k = M) w4 (w4.setCell ⟨M, 0, none⟩ v) := (Kept.refl base (fun k => k = M) w4).setCell (p := ⟨M, 0, none⟩) (by show base ≤ M; omega) rfl v
  have hcp : cp ≠ M := fun e => by
    have := c'.2.1
    rw [e, hM4] at this; cases this
  refine ⟨b', c + 1, q', _, ops + 1, ⟨c'.1, (kA.2 cp (blk_lt' c'.2.1) hcp).trans c'.2.1, (hh.high fun k hk => Below.heap_setCell w4 ⟨M, 0, none⟩ v k (by show k ≠ M; omega)).rebase (Nat.le_trans h10 hU.size)⟩, l'.kept kA ?_, rfl, set_within h4 hx bs, hFl, by omega, by omega, ((h8.below hU).keptd k' hz).keptd kA hz, ((h9.trans (hU.mono h10)).trans k'.1).trans kA.1, Nat.le_trans h10 (Nat.le_trans hU.size (Nat.le_trans k'.1.size kA.1.size))⟩
  intro k hk e
  have e' : k = M := e
  subst e'
  rcases hk with hk | hk | hk
  · obtain ⟨ys, t, fr, g1, g2⟩ := l'.tags k (Or.inl hk)
    rw [hM4] at g1; cases g1; exact g2 rfl
  · obtain ⟨ys, t, fr, g1, g2⟩ := l'.tags k (Or.inr hk)
    rw [hM4] at g1; cases g1; exact g2 rfl
  · rcases f' k hk with hq | hq
    · have := (h2.lt k (Or.inr (Or.inr hq))).2
      omega
    · omega
theorem set_back (x : Int) (bs : List Nat) : setF (setF noF [(x, bs)]) [(x, [])] = noF := by
  funext y
  show upF (upF noF x bs) x [] y = noF y
  unfold upF
  by_cases e : y = x
  · rw [if_pos e]; rfl
  · rw [if_neg e, if_neg e]
theorem one_cell_of (x : Int) (hx : 0 ≤ x ∧ x < 8) (bs : List Nat) (hb : bs ≠ []) : cellsOf (setF noF [(x, bs)]) = [(x, bs)] := by
  have hk : keysOf (setF noF [(x, bs)]) = [x] := by
    have h1 : ∀ y, y ∈ keysOf (setF noF [(x, bs)]) ↔ y ∈ [x] := fun y => by
      rw [keys_mem, List.mem_singleton]
      constructor
      · rintro ⟨_, h⟩
        by_cases e : y = x
        · exact e
        · exact absurd (by show upF noF x bs y = []; unfold upF; rw [if_neg e]; rfl) h
      · rintro rfl
        exact ⟨hx, by rw [set_at]; exact hb⟩
    have h2 : (keysOf (setF noF [(x, bs)])).Perm [x] := (List.perm_ext_iff_of_nodup (keys_nodup _) (by simp)).2 h1
    exact List.perm_singleton.1 h2
  unfold cellsOf
  rw [hk]
  simp only [List.map_cons, List.map_nil, set_at]
end Go.Proofs.YtaggbpfpheffpaaGreatDoor
