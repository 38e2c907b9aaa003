/- Arguments: what a slice of bytes holds; that what was read reads as it did. -/
import Derived.Test.YtnagfoclbdlenaaGreatDoorWLaid
import Derived.SizedLaws
import Derived.Carry
import Derived.ProofKit
import Derived.OpenShut
import Derived.ChangeSlices
import Derived.Deep.Matrix
namespace Go.Proofs.YtnagfoclbdlenaaGreatDoor
open Go.ChangeShapes Go.WideShapes Go.ChangeAt Go.RowKit Go.Deep

theorem Tryz.laidOut : laidOutB Tryz.prog = true := by kernel_rfl
theorem Tryz.cells5 : Tryz.prog.cellsOf 5 = 1 := by kernel_rfl

theorem args_kept {H : Type} {enc : TypeId × Value → H} {W W' : World} (hb : Below W.heap.size W W') : ∀ {ts : List TypeId} {vs : List Value} {ds : List (DataW H)} {ps : List MemPlace},
    (∀ t ∈ ts, Tryz.prog.readableRec t = true ∧ t < Tryz.prog.types.size) → DataW.TrodAll enc Tryz.prog W 0 (fun _ => true) true ts vs ds ps → (∀ x ∈ ps, x.block < W.heap.size) →
    DataW.TrodAll enc Tryz.prog W' 0 (fun b => decide (b < W.heap.size)) true ts vs ds ps := by
  intro ts
  induction ts with
  | nil =>
    intro vs ds ps _ h _
    obtain ⟨rfl, rfl, rfl⟩ := trodAll_nil h
    exact trodAll_mk0
  | cons t ts ih =>
    intro vs ds ps ht h hlt
    obtain ⟨v, vs', d, ds', p, q, rfl, rfl, rfl, h1, h2⟩ := trodAll_cons h
    exact trodAll_cons_mk (Below.trod Tryz.laidOut (ht t (by simp)).1 (ht t (by simp)).2 h1 hb (fun x hx => hlt x (by simp [hx]))) (ih (fun u hu => ht u (by simp [hu])) h2 (fun x hx => hlt x (by simp [hx])))

set_option maxRecDepth 100000 in
theorem bytes_open {H : Type} {enc : TypeId × Value → H} {W : World} {base : Nat} {v : Value} {d : DataW H} {p : List MemPlace} (hv : Value.okWide Tryz.prog W .any base 38 v)
    (h : DataW.Trod enc Tryz.prog W 0 (fun _ => true) true 38 v d p) : ∃ ao n cap bs, v = .slice ao n cap ∧ bs.length = n ∧ n ≤ cap ∧ cap ≤ maxLen ∧ Bytes W ao bs ∧ (ao = none → n = 0 ∧ cap = 0) ∧ (n = 0 ∨ ∃ es sp, d = .slice es sp ∧ es.length = n) := by
  obtain ⟨a0, len, cap, rfl⟩ := okWide_slice Tryz.underlying38 hv
  obtain ⟨fuel, hf⟩ := h
  rcases open_ints Tryz.underlying38 Tryz.underlying5 Tryz.cells5 hf with ⟨hcs, hx⟩ | ⟨a, len', cap', zs, hcs, _, hl, hm, hz, hx, hcell, hwz⟩
  · simp [Value.cells] at hcs
    obtain ⟨rfl, rfl, rfl⟩ := hcs
    exact ⟨none, 0, 0, [], rfl, rfl, Nat.le_refl _, by decide, ⟨by simp, by simp⟩, fun _ => ⟨rfl, rfl⟩, Or.inl rfl⟩
  · simp [Value.cells] at hcs
    obtain ⟨rfl, rfl, rfl⟩ := hcs
    simp only [if_true] at hz
    have key : ∀ i, i < len → 0 ≤ zs.getD i 0 ∧ zs.getD i 0 < 256 := by
      intro i hi
      have hi' : i < zs.length := by omega
      refine u8_wf (hwz _ ?_)
      rw [List.getD_eq_getElem?_getD, List.getElem?_eq_getElem hi']; exact List.getElem_mem hi'
    have hlen : ((zs.take len).map Int.toNat).length = len := by simp; omega
    have hget : ∀ i, i < len → ((zs.take len).map Int.toNat).getD i 0 = (zs.getD i 0).toNat := by
      intro i hi
      have hi' : i < zs.length := by omega
      simp [List.getD_eq_getElem?_getD, List.getElem?_take_of_lt hi, List.getElem?_eq_getElem hi']
    refine ⟨some a, len, cap, (zs.take len).map Int.toNat, rfl, hlen, hl, hm, ⟨?_, ?_⟩, (fun h => by cases h), Or.inr ⟨_, _, congrArg Prod.fst hx, by simp [lits]; omega⟩⟩
    · intro x hx
      obtain ⟨i, hi, rfl⟩ := List.mem_iff_getElem.1 hx
      rw [hlen] at hi
      have := hget i hi
      have k := key i hi
      rw [List.getD_eq_getElem?_getD, List.getElem?_eq_getElem (by rw [hlen]; exact hi)] at this
      simp only [Option.getD_some] at this
      omega
    · intro i hi
      rw [hlen] at hi
      refine ⟨a, rfl, ?_⟩
      rw [hcell i (by omega), hget i hi, Int.toNat_of_nonneg (key i hi).1]

theorem Tryz.bytes5 : Tryz.prog.bytesOf 5 = 1 := by kernel_rfl
/-- an argument's bytes are at most what a row may take. -/
theorem bytes_bound {H : Type} {ts : List TypeId} {ds : List (DataW H)} (hsz : (DataW.weightsEach Tryz.prog ts ds).all (· ≤ reachBytes) = true) {j n : Nat} {d : DataW H} (ht : ts[j]? = some 38) (hd : ds[j]? = some d) (h : n = 0 ∨ ∃ es sp, d = .slice es sp ∧ es.length = n) : n ≤ 140737488355327 := by
  rcases h with rfl | ⟨es, sp, rfl, rfl⟩
  · omega
  · have h1 := sized_slice hsz ht hd Tryz.underlying38
    rw [Tryz.bytes5] at h1
    have h2 := reachBytes_lt
    omega
/-- a slice's numbers. -/
def Nums (w : World) (ao : Option Addr) (xs : List Int) : Prop := ∀ i, i < xs.length → ∃ a, ao = some a ∧ w.cell? (a.add i) = some (.int .i64 (xs.getD i 0)) ∧ -9223372036854775808 ≤ xs.getD i 0 ∧ xs.getD i 0 ≤ 9223372036854775807
theorem Nums.below {w w' : World} {ao : Option Addr} {xs : List Int} (h : Nums w ao xs) (hb : Below w.heap.size w w') : Nums w' ao xs := by
  intro i hi
  obtain ⟨a, ea, hc, hr⟩ := h i hi
  exact ⟨a, ea, by rw [hb.cell (blk_lt hc)]; exact hc, hr⟩
theorem Tryz.cells3 : Tryz.prog.cellsOf 3 = 1 := by kernel_rfl
theorem i64_wf {n : Int} (h : (Lit.int .i64 n).wf = true) : -9223372036854775808 ≤ n ∧ n ≤ 9223372036854775807 := by
  simp [Lit.wf, IntKind.min, IntKind.max, IntKind.bits, IntKind.signed] at h; omega
set_option maxRecDepth 100000 in
theorem ints_open {H : Type} {enc : TypeId × Value → H} {W : World} {base : Nat} {v : Value} {d : DataW H} {p : List MemPlace} (hv : Value.okWide Tryz.prog W .any base 47 v)
    (h : DataW.Trod enc Tryz.prog W 0 (fun _ => true) true 47 v d p) : ∃ ao n cap xs, v = .slice ao n cap ∧ xs.length = n ∧ n ≤ cap ∧ cap ≤ maxLen ∧ Nums W ao xs := by
  obtain ⟨a0, len, cap, rfl⟩ := okWide_slice Tryz.underlying47 hv
  obtain ⟨fuel, hf⟩ := h
  rcases open_ints Tryz.underlying47 Tryz.underlying3 Tryz.cells3 hf with ⟨hcs, _⟩ | ⟨a, len', cap', zs, hcs, _, hl, hm, hz, _, hcell, hwz⟩
  · simp [Value.cells] at hcs
    obtain ⟨rfl, rfl, rfl⟩ := hcs
    exact ⟨none, 0, 0, [], rfl, rfl, Nat.le_refl _, by decide, fun i hi => by simp at hi⟩
  · simp [Value.cells] at hcs
    obtain ⟨rfl, rfl, rfl⟩ := hcs
    simp only [if_true] at hz
    have hlen : (zs.take len).length = len := by simp; omega
    refine ⟨some a, len, cap, zs.take len, rfl, hlen, hl, hm, ?_⟩
    intro i hi
    rw [hlen] at hi
    have hi' : i < zs.length := by omega
    have hg : (zs.take len).getD i 0 = zs.getD i 0 := by simp [List.getD_eq_getElem?_getD, List.getElem?_take_of_lt hi]
    rw [hg]
    refine ⟨a, rfl, hcell i hi', i64_wf (hwz _ ?_)⟩
    rw [List.getD_eq_getElem?_getD, List.getElem?_eq_getElem hi']; exact List.getElem_mem hi'
theorem Tryz.cells27 : Tryz.prog.cellsOf 38 = 1 := by kernel_rfl
set_option maxRecDepth 100000 in
theorem rows_open {H : Type} {enc : TypeId × Value → H} {W : World} {base : Nat} {v : Value} {d : DataW H} {p : List MemPlace} (hv : Value.okWide Tryz.prog W .any base 65 v)
    (h : DataW.Trod enc Tryz.prog W 0 (fun _ => true) true 65 v d p) : ∃ ao n cap xs, v = .slice ao n cap ∧ xs.length = n ∧ n ≤ cap ∧ (∀ x ∈ xs, ∀ b ∈ x, b < 256) ∧ RowsArg W ao xs := by
  obtain ⟨a0, len, cap, rfl⟩ := okWide_slice Tryz.underlying65 hv
  obtain ⟨fuel, hf⟩ := h
  rcases open_int_rows Tryz.underlying65 Tryz.underlying38 Tryz.underlying5 Tryz.cells27 Tryz.cells5 hf with ⟨hcs, _⟩ | ⟨a, len', cap', A, L, C, Z, hcs, _, hl, _, _, hr⟩
  · simp [Value.cells] at hcs
    obtain ⟨rfl, rfl, rfl⟩ := hcs
    exact ⟨none, 0, 0, [], rfl, rfl, Nat.le_refl _, by simp, fun i hi => by simp at hi⟩
  · simp [Value.cells] at hcs
    obtain ⟨rfl, rfl, rfl⟩ := hcs
    have one : ∀ r, r < len → ((((Z r).take (L r)).map Int.toNat).length = L r ∧ Bytes W (A r) (((Z r).take (L r)).map Int.toNat)) := by
      intro r hrl
      obtain ⟨_, h2, _, h4, h5, h6, h7⟩ := hr r (by omega)
      have hlen : (((Z r).take (L r)).map Int.toNat).length = L r := by simp; omega
      have key : ∀ i, i < L r → 0 ≤ (Z r).getD i 0 ∧ (Z r).getD i 0 < 256 := by
        intro i hi
        have hi' : i < (Z r).length := by omega
        refine u8_wf (h5 _ ?_)
        rw [List.getD_eq_getElem?_getD, List.getElem?_eq_getElem hi']; exact List.getElem_mem hi'
      have hget : ∀ i, i < L r → (((Z r).take (L r)).map Int.toNat).getD i 0 = ((Z r).getD i 0).toNat := by
        intro i hi
        have hi' : i < (Z r).length := by omega
        simp [List.getD_eq_getElem?_getD, List.getElem?_take_of_lt hi, List.getElem?_eq_getElem hi']
      refine ⟨hlen, ?_, ?_⟩
      · intro x hx
        obtain ⟨i, hi, rfl⟩ := List.mem_iff_getElem.1 hx
        rw [hlen] at hi
        have := hget i hi
        have k := key i hi
        rw [List.getD_eq_getElem?_getD, List.getElem?_eq_getElem (by rw [hlen]; exact hi)] at this
        simp only [Option.getD_some] at this
        omega
      · intro i hi
        rw [hlen] at hi
        cases hA : A r with
        | none => have := h6 hA; omega
        | some a' =>
          refine ⟨a', rfl, ?_⟩
          rw [(h7 a' hA).2 i (by omega), hget i hi, Int.toNat_of_nonneg (key i hi).1]
    have hg : ∀ i, i < len → ((List.range len).map fun r => ((Z r).take (L r)).map Int.toNat).getD i [] = ((Z i).take (L i)).map Int.toNat := by
      intro i hi
      simp [List.getD_eq_getElem?_getD, hi]
    refine ⟨some a, len, cap, (List.range len).map fun r => ((Z r).take (L r)).map Int.toNat, rfl, by simp, hl, ?_, ?_⟩
    · intro x hx
      simp only [List.mem_map, List.mem_range] at hx
      obtain ⟨r, hr', rfl⟩ := hx
      exact (one r hr').2.1
    · intro i hi
      simp only [List.length_map, List.length_range] at hi
      obtain ⟨h1, h2, _, _, _, h6, _⟩ := hr i (by omega)
      rw [hg i hi]
      refine ⟨a, A i, C i, rfl, ?_, (one i hi).2, ?_, h6⟩
      · rw [(one i hi).1]; exact h1
      · rw [(one i hi).1]; exact h2
end Go.Proofs.YtnagfoclbdlenaaGreatDoor
