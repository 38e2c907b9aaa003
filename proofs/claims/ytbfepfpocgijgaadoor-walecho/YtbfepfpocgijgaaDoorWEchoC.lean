/- The walk of WalEcho. -/
import Derived.Test.YtbfepfpocgijgaaDoorWReg
import Derived.Deep.CutBlock
import Derived.Deep.DeepCutAuto
namespace Go.Proofs.YtbfepfpocgijgaaDoor
open Go.RowKit

/-- the records that the statement writes. -/
def echo (xs : List (List Nat)) (j : Nat) : List Nat := cats (xs.take (j + 1)) ++ frame (xs.getD j [])
def echoes (xs : List (List Nat)) (i : Nat) : List (List Nat) := (List.range i).map (echo xs)
theorem echoes_succ (xs : List (List Nat)) (i : Nat) : echoes xs (i + 1) = echoes xs i ++ [echo xs i] := by simp [echoes, List.range_succ]
theorem echoes_len (xs : List (List Nat)) (i : Nat) : (echoes xs i).length = i := by simp [echoes]
theorem echo_len {xs : List (List Nat)} {j : Nat} : (echo xs j).length = takes (xs.take (j + 1)) + (8 + (xs.getD j []).length) := by
  unfold echo; rw [List.length_append, cats_len, frame_length]
theorem echo_bytes {xs : List (List Nat)} (h : Fit xs) {j : Nat} (hj : j < xs.length) : ∀ b ∈ echo xs j, b < 256 := by
  intro b hb
  unfold echo at hb
  rcases List.mem_append.1 hb with hb | hb
  · exact cats_bytes (h.take _) b hb
  · exact frame_bytes (h _ (getD_mem hj)).1 b hb
theorem row_cap {w : World} {base : Nat} {e : TypeId} {z : Nat} {ao : Option Addr} {n cap m : Nat} {vs : List Value} (h : w.ownsRow base e z (.slice ao n cap) m vs) : m ≤ cap := by
  rcases h.2 with ⟨e1, h0⟩ | ⟨g, cap', cur, e1, _, _, hc, _⟩
  · cases e1; omega
  · cases e1; exact hc
theorem RowVals.kept {base : Nat} {f : Nat → Prop} {w w' : World} {vs : List Value} {xs : List (List Nat)} (h : RowVals w vs xs) (hk : Kept base f w w') (hf : ∀ v ∈ vs, ∀ k, v.ownBlock = some k → ¬ f k) : RowVals w' vs xs :=
  ⟨h.1, fun i v x hv hx => by
    obtain ⟨r, cap, e, h1, h2⟩ := h.2 i v x hv hx
    refine ⟨r, cap, e, h1.far hk (fun a ea => ?_), h2⟩
    refine hf v (List.mem_of_getElem? hv) a.block ?_
    rw [e, ea]; rfl⟩

theorem own_bytes3 {base : Nat} {w : World} {ao : Option Addr} {n cap : Nat} {bs : List Nat} (h : Own base w (.slice ao n cap) bs) : Bytes w ao bs ∧ (ao = none → cap = 0) ∧ n ≤ cap := by
  obtain ⟨ao', cap', e, h0, _, h1, h2, _⟩ := h.slice
  simp only [Value.slice.injEq] at e
  obtain ⟨rfl, e2, rfl⟩ := e
  exact ⟨h1, h2, by omega⟩
theorem own_rows_apart {base b b' : Nat} {w w' : World} {v u : Value} {bs : List Nat} {m : Nat} {vs : List Value} (ho : w.ownsRow b 32 1 v m vs) (h : Own base w u bs) (hk : Kept b' (fun k => u.ownBlock = some k) w w') : w'.ownsRow b 32 1 v m vs := by
  refine hk.own ho fun k e hfk => ?_
  obtain ⟨_, cur, fr, hc⟩ := own_tag ho k e
  exact h.ne hc (by decide) k hfk rfl
theorem own_u8_apart {base b b' : Nat} {w w' : World} {v u : Value} {bs : List Nat} {m : Nat} {vs : List Value} (ho : w.ownsRow b 32 1 v m vs) (h : Own base w u bs) (hk : Kept b' (fun k => v.ownBlock = some k) w w') : Own base w' u bs := by
  refine h.kept hk fun k e hfk => ?_
  obtain ⟨_, cur, fr, hc⟩ := own_tag ho k hfk
  exact h.ne hc (by decide) k e rfl

theorem more_grown {base : Nat} {w w' : World} {v : Value} {m : Nat} {vs : List Value} {g : Nat} (hk : Kept base (fun k => v.ownBlock = some k) w w') (ho : w.ownsRow base 32 1 v m vs) (hs : w.shape? g = some (5, 4))
    (h0 : w.cell? ⟨g, 0, none⟩ = some (.int .u8 109)) (h1 : w.cell? ⟨g, 1, none⟩ = some (.int .u8 111)) (h2 : w.cell? ⟨g, 2, none⟩ = some (.int .u8 114)) (h3 : w.cell? ⟨g, 3, none⟩ = some (.int .u8 101)) : Bytes w' (some ⟨g, 0, none⟩) [109, 111, 114, 101] :=
  more_bytes (kept_cell hk h0 (tag_ne ho hs)) (kept_cell hk h1 (tag_ne ho hs)) (kept_cell hk h2 (tag_ne ho hs)) (kept_cell hk h3 (tag_ne ho hs))

end Go.Proofs.YtbfepfpocgijgaaDoor
