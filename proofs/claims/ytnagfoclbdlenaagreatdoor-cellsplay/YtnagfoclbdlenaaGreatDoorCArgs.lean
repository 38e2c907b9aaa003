/- Arguments: what a slice of cells holds. -/
import Derived.Test.YtnagfoclbdlenaaGreatDoorCGood
namespace Go.Proofs.YtnagfoclbdlenaaGreatDoor
open Go.ChangeShapes Go.WideShapes Go.ChangeAt Go.RowKit

theorem Tryz.cellsCell : Tryz.prog.cellsOf 40 = 2 := by kernel_rfl
theorem spot_none {w : World} {a : Addr} {v : Value} (h : w.cell? a = some v) : a = ⟨a.block, a.off, none⟩ := by
  obtain ⟨b, o, s⟩ := a
  cases s with
  | none => rfl
  | some x =>
    unfold World.cell? at h
    split at h
    · simp at h
    · cases h
/-- bytes that are part of an argument. -/
theorem bytes_trod {H : Type} {enc : TypeId × Value → H} {W : World} {fuel : Nat} {v : Value} {z : DataW H × List MemPlace}
    (hf : DataW.trod enc Tryz.prog W 0 (fun _ => true) true fuel 38 [v] = some z) : ∃ ao n cap bs, v = .slice ao n cap ∧ bs.length = n ∧ n ≤ cap ∧ cap ≤ maxLen ∧ Bytes W ao bs ∧ (ao = none → cap = 0) := by
  rcases open_ints Tryz.underlying38 Tryz.underlying5 Tryz.cells5 hf with ⟨hcs, hx⟩ | ⟨a, len, cap, zs, hcs, _, hl, hm, hz, hx, hcell, hwz⟩
  · simp only [List.cons.injEq, and_true] at hcs
    exact ⟨none, 0, 0, [], hcs, rfl, Nat.le_refl _, by decide, ⟨by simp, by simp⟩, fun _ => rfl⟩
  · simp only [List.cons.injEq, and_true] at hcs
    simp only [if_true] at hz
    have key : ∀ i, i < len → 0 ≤ zs.getD i 0 ∧ zs.getD i 0 < 256 := by
      intro i hi
      have hi' : i < zs.length := by omega
      refine u8_wf (hwz _ ?_)
      rw [List.getD_eq_getElem?_getD, List.getElem?_eq_getElem hi']; exact List.getElem_mem hi'
    have hlen : ((zs.take len).map Int.toNat).length = len := by simp; omega
    have hget : ∀ i, i < len → ((zs.take len).map Int.toNat).getD i 0 = (zs.getD i 0).toNat := by
      intro i hi
      have hi' : i < zs.length := by omega
      simp [List.getD_eq_getElem?_getD, List.getElem?_take_of_lt hi, List.getElem?_eq_getElem hi']
    refine ⟨some a, len, cap, (zs.take len).map Int.toNat, hcs, hlen, hl, hm, ⟨?_, ?_⟩, fun h => by cases h⟩
    · intro x hx
      obtain ⟨i, hi, rfl⟩ := List.mem_iff_getElem.1 hx
      rw [hlen] at hi
      have := hget i hi
      have k := key i hi
      rw [List.getD_eq_getElem?_getD, List.getElem?_eq_getElem (by rw [hlen]; exact hi)] at this
      simp only [Option.getD_some] at this
      omega
    · intro i hi
      rw [hlen] at hi
      refine ⟨a, rfl, ?_⟩
      rw [hcell i (by omega), hget i hi, Int.toNat_of_nonneg (key i hi).1]
/-- one cell of a slice. -/
def OneAt (w : World) (a : Addr) (i : Nat) (c : Int × List Nat) : Prop :=
  a = ⟨a.block, a.off, none⟩ ∧ (∃ r cx, w.cell? ⟨a.block, a.off + i * 2, none⟩ = some (.int .i64 c.1) ∧ w.cell? ⟨a.block, a.off + i * 2 + 1, none⟩ = some (.slice r c.2.length cx) ∧ Bytes w r c.2 ∧ (r = none → cx = 0) ∧ c.2.length ≤ cx) ∧ c.2.length ≤ maxLen ∧ (Lit.int .i64 c.1).wf = true
theorem ones_at {w : World} {a : Addr} {n : Nat} (h : ∀ i, i < n → ∃ c, OneAt w a i c) : ∃ lst, lst.length = n ∧ CAt w (some a) lst ∧ ∀ c ∈ lst, c.2.length ≤ maxLen ∧ (Lit.int .i64 c.1).wf = true := by
  have : ∃ g : Nat → Int × List Nat, ∀ i, i < n → OneAt w a i (g i) := by
    classical
    refine ⟨fun i => if hi : i < n then (h i hi).choose else (0, []), fun i hi => ?_⟩
    simp only [hi, dif_pos]
    exact (h i hi).choose_spec
  obtain ⟨g, hg⟩ := this
  refine ⟨(List.range n).map g, by simp, fun i x bs hi => ?_, fun c hc => ?_⟩
  · have hlt : i < n := by
      have := (List.getElem?_eq_some_iff.1 hi).1
      simpa using this
    rw [List.getElem?_map, List.getElem?_range hlt] at hi
    simp only [Option.map_some, Option.some.injEq] at hi
    obtain ⟨e, ⟨r, cx, h1, h2, h3, h4, h5⟩, -, -⟩ := hg i hlt
    rw [hi] at h1 h2 h3 h5
    exact ⟨a.block, a.off, r, cx, congrArg some e, h1, h2, h3, h4, h5⟩
  · obtain ⟨i, hi, rfl⟩ := List.mem_map.1 hc
    exact (hg i (List.mem_range.1 hi)).2.2
theorem add_lit' {a : Addr} (h : a = ⟨a.block, a.off, none⟩) (n : Nat) : a.add n = ⟨a.block, a.off + n, none⟩ := by
  rw [h]; exact Addr.add_lit _ _ _

set_option maxRecDepth 100000 in
theorem cells_trod {H : Type} {enc : TypeId × Value → H} {W : World} {fuel : Nat} {v : Value} {z : DataW H × List MemPlace}
    (hf : DataW.trod enc Tryz.prog W 0 (fun _ => true) true fuel 35 [v] = some z) : ∃ ao n cap lst, v = .slice ao n cap ∧ lst.length = n ∧ n ≤ cap ∧ n ≤ maxLen ∧ CAt W ao lst ∧ ∀ c ∈ lst, c.2.length ≤ maxLen ∧ (Lit.int .i64 c.1).wf = true := by
  rcases DataW.trod_slice Tryz.underlying35 hf with ⟨hcs, _⟩ | ⟨a, len, cap, elems, rest, n, _, hcs, _, _, hl, hm, hel, hx, _⟩
  · simp only [List.cons.injEq, and_true] at hcs
    exact ⟨none, 0, 0, [], hcs, rfl, Nat.le_refl _, by decide, fun i n bs hi => by simp at hi, by simp⟩
  · simp only [List.cons.injEq, and_true] at hcs
    obtain ⟨lst, h1, h2, h3⟩ := ones_at (w := W) (a := a) (n := len) fun i hi => by
      have hi' := hx i hi
      rw [List.getElem?_eq_getElem (by omega), Tryz.cellsCell] at hi'
      obtain ⟨cs, hc, ht⟩ := Option.bind_eq_some_iff.1 hi'
      obtain ⟨_, hlen, hcell⟩ := World.cells?_some hc
      have h0' := hx 0 (by omega)
      rw [List.getElem?_eq_getElem (by omega), Tryz.cellsCell] at h0'
      obtain ⟨cs0, hc0, -⟩ := Option.bind_eq_some_iff.1 h0'
      obtain ⟨_, hlen0, hcell0⟩ := World.cells?_some hc0
      have hs : a = ⟨a.block, a.off, none⟩ := by
        have e := hcell0 0 (by omega)
        rw [List.getElem?_eq_getElem (by omega)] at e
        simp [Addr.add] at e
        exact spot_none e
      obtain ⟨xs, m, _, _, hl5, hlx, hfi⟩ := DataW.trod_struct Tryz.underlying40 ht
      rw [Tryz.cellsCell] at hl5
      match cs, hl5, xs, hlx with
      | [c0, c1], _, [y0, y1], _ =>
        have f0 := hfi 0 _ rfl
        have f1 := hfi 1 _ rfl
        simp [Tryz.cells3, Tryz.cells27] at f0 f1
        obtain ⟨k0, e0, -, w0⟩ := DataW.trod_int Tryz.underlying3 f0
        simp only [List.cons.injEq, and_true] at e0
        subst e0
        obtain ⟨r, l, cx, bs, rfl, hbl, hlc, hcm, hby, hrn⟩ := bytes_trod f1
        have d0 := hcell 0 (by omega)
        have d1 := hcell 1 (by omega)
        rw [Addr.add_add, add_lit' hs] at d0 d1
        refine ⟨(k0, bs), hs, ⟨r, cx, ?_, ?_, hby, hrn, by show bs.length ≤ cx; omega⟩, by show bs.length ≤ maxLen; omega, w0⟩
        · simpa using d0
        · show _ = some (Value.slice r bs.length cx)
          rw [hbl]; simpa [Nat.add_assoc] using d1
    exact ⟨some a, len, cap, lst, hcs, h1, hl, by omega, h2, h3⟩
set_option maxRecDepth 100000 in
/-- an argument that is a slice of cells. -/
theorem cells_open {H : Type} {enc : TypeId × Value → H} {W : World} {base : Nat} {v : Value} {d : DataW H} {p : List MemPlace} (hv : Value.okWide Tryz.prog W .any base 35 v)
    (h : DataW.Trod enc Tryz.prog W 0 (fun _ => true) true 35 v d p) : ∃ ao n cap lst, v = .slice ao n cap ∧ lst.length = n ∧ n ≤ cap ∧ n ≤ maxLen ∧ CAt W ao lst ∧ ∀ c ∈ lst, c.2.length ≤ maxLen ∧ (Lit.int .i64 c.1).wf = true := by
  obtain ⟨a0, len, cap, rfl⟩ := okWide_slice Tryz.underlying35 hv
  obtain ⟨fuel, hf⟩ := h
  exact cells_trod (fuel := fuel) hf
theorem Tryz.cellsRow : Tryz.prog.cellsOf 35 = 1 := by kernel_rfl
/-- rows of cells. -/
def CRowsAt (w : World) (ao : Option Addr) (n : Nat) : Prop :=
  ∀ i, i < n → ∃ blk off r m cx lst, ao = some ⟨blk, off, none⟩ ∧ w.cell? ⟨blk, off + i, none⟩ = some (.slice r m cx) ∧ lst.length = m ∧ m ≤ cx ∧ m ≤ maxLen ∧ CAt w r lst ∧ ∀ c ∈ lst, c.2.length ≤ maxLen ∧ (Lit.int .i64 c.1).wf = true
set_option maxRecDepth 100000 in
theorem cellRows_open {H : Type} {enc : TypeId × Value → H} {W : World} {base : Nat} {v : Value} {d : DataW H} {p : List MemPlace} (hv : Value.okWide Tryz.prog W .any base 22 v)
    (h : DataW.Trod enc Tryz.prog W 0 (fun _ => true) true 22 v d p) : ∃ ao n cap, v = .slice ao n cap ∧ n ≤ maxLen ∧ CRowsAt W ao n := by
  obtain ⟨a0, len0, cap0, rfl⟩ := okWide_slice Tryz.underlying22 hv
  obtain ⟨fuel, hf⟩ := h
  rcases DataW.trod_slice Tryz.underlying22 hf with ⟨hcs, _⟩ | ⟨a, len, cap, elems, rest, n, _, hcs, _, _, hl, hm, hel, hx, _⟩
  · simp [Value.cells] at hcs
    obtain ⟨rfl, rfl, rfl⟩ := hcs
    exact ⟨none, 0, 0, rfl, by decide, fun i hi => by omega⟩
  · simp [Value.cells] at hcs
    obtain ⟨rfl, rfl, rfl⟩ := hcs
    refine ⟨some a, len0, cap0, rfl, by omega, fun i hi => ?_⟩
    have hi' := hx i hi
    rw [List.getElem?_eq_getElem (by omega), Tryz.cellsRow] at hi'
    obtain ⟨cs, hc, ht⟩ := Option.bind_eq_some_iff.1 hi'
    obtain ⟨_, hlen, hcell⟩ := World.cells?_some hc
    have h0' := hx 0 (by omega)
    rw [List.getElem?_eq_getElem (by omega), Tryz.cellsRow] at h0'
    obtain ⟨cs0, hc0, -⟩ := Option.bind_eq_some_iff.1 h0'
    obtain ⟨_, hlen0, hcell0⟩ := World.cells?_some hc0
    have hs : a = ⟨a.block, a.off, none⟩ := by
      have e := hcell0 0 (by omega)
      rw [List.getElem?_eq_getElem (by omega)] at e
      simp [Addr.add] at e
      exact spot_none e
    match cs, hlen with
    | [c0], _ =>
      obtain ⟨r, m, cx, lst, rfl, g1, g2, g3, g4, g5⟩ := cells_trod ht
      have d0 := hcell 0 (by omega)
      rw [Addr.add_add, add_lit' hs] at d0
      exact ⟨a.block, a.off, r, m, cx, lst, congrArg some hs, by simpa using d0, g1, g2, g3, g4, g5⟩
end Go.Proofs.YtnagfoclbdlenaaGreatDoor
