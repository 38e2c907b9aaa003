/- wire's writer: a message: a contract. wire.EncodeEntry: a contract. wire's encode of a message and of a configuration: contracts. wire.EncodeMsg, wire.EncodeConfig: contracts. -/
import Derived.Test.YtgllokinadjiaaaGreatDoorWwWriterE
namespace Go.Proofs.YtgllokinadjiaaaGreatDoor.Ww
open Go.RowKit

theorem ints_new (base : Nat) (w : World) (ys : List Int) : Ints base [5, 117] (w.alloc (.cells (ys.map fun y => Value.int .i64 y).toArray 3)) (some ⟨w.heap.size, 0, none⟩) ys := by
  intro i hi
  have hb := heap_alloc_new w (.cells (ys.map fun y => Value.int .i64 y).toArray 3)
  refine ⟨_, rfl, ?_, Or.inr ⟨_, _, _, hb, by decide⟩⟩
  rw [Addr.add_lit, cell_of_block hb]
  simp [List.getD_eq_getElem?_getD, List.getElem?_eq_getElem hi]
def bitOf (b : Bool) : Int := if b = true then 1 else 0
def putMsg (from' to' gen kind term index last commit : Int) (yes : Bool) (terms : List Int) (es : List En) (old new : List Int) (s : List Nat × Nat) : List Nat × Nat :=
  putConfig old new (putEntries es (putList 6 terms (putRule 3 (bitOf yes) (putInts [term, index, last, commit] (putRule 2 kind (putInts [from', to', gen] s))))))
theorem putInts_len (ys : List Int) (s : List Nat × Nat) : (putInts ys s).1.length = s.1.length + 8 * ys.length := by unfold putInts; rw [List.length_append, nums_len]
theorem putEntries_len (es : List En) (s : List Nat × Nat) : (putEntries es s).1.length ≤ s.1.length + 40000 := by
  have h1 := putRule_len 6 es.length s
  unfold putEntries
  split
  · rename_i h
    have h2 := (refuse_range h.2).2
    have h3 := putEs_len es (putRule 6 es.length s)
    omega
  · omega

end Go.Proofs.YtgllokinadjiaaaGreatDoor.Ww
namespace Go.Proofs.YtgllokinadjiaaaGreatDoor.Ww
open Go.RowKit

/-- what Encode answers of what a writer has. -/
def told (s : List Nat × Nat) : List Nat := if s.2 = 0 then s.1 else []

end Go.Proofs.YtgllokinadjiaaaGreatDoor.Ww
namespace Go.Proofs.YtgllokinadjiaaaGreatDoor.Ww
open Go.RowKit

set_option maxRecDepth 20000 in
set_option maxHeartbeats 1000000 in
theorem encC (aoo aon : Option Addr) (no nn co cn : Nat) (old new : List Int) (hno : old.length = no) (hnn : new.length = nn) (w : World) (ho : ∀ w1, Below w.heap.size w w1 → Ints w.heap.size [5, 117] w1 aoo old) (hw : ∀ w1, Below w.heap.size w w1 → Ints w.heap.size [5, 117] w1 aon new) (hS : Start w) :
    Calls Tryz.prog 52 #[.agg #[.slice aoo no co, .slice aon nn cn], .func (.func 53) #[] #[]] w fun e w' =>
      ∃ v, e = .returned (.tuple #[v, .int .i64 (((putConfig old new ([], 0)).2 : Nat) : Int)]) ∧ Own w.heap.size w' v (told (putConfig old new ([], 0))) ∧ Below w.heap.size w w' := by
  obtain ⟨w1, hw1⟩ : ∃ w1, (w.alloc (.cells #[.slice aoo no co, .slice aon nn cn] 24)).alloc (.cells #[.slice none 0 0, .nilIface] 117) = w1 := ⟨_, rfl⟩
  have b1 : Below w.heap.size w w1 := by rw [← hw1]; exact ((Below.refl _ w).alloc (Nat.le_refl _) _).alloc (by simp) _
  have hp1 : w1.heap[w.heap.size + 1]? = some (.cells #[.slice none 0 0, .nilIface] 117 (0, 0)) := by
    rw [← hw1]
    have h := heap_alloc_new (w.alloc (.cells #[.slice aoo no co, .slice aon nn cn] 24)) (.cells #[.slice none 0 0, .nilIface] 117)
    simpa using h
  have wr1 : Wr w.heap.size w1 (w.heap.size + 1) [] 0 := ⟨_, _, hp1, by omega, Own.nil _ _, Or.inl ⟨rfl, rfl⟩⟩
  have hcall := config_any w.heap.size (w.heap.size + 1) ([], 0) aoo aon no nn co cn old new hno hnn (by simp) w1 wr1 (ho w1 b1) (hw w1 b1) b1.size
  have S1 := hide (hS.below b1)
  have ZG := hide hS.2.2
  have B1 := hide b1
  have HW1 := hide hw1
  obtain ⟨f, hf⟩ : ∃ f, putConfig old new ([], 0) = f := ⟨_, rfl⟩
  rw [hf] at hcall ⊢
  have HC := hide hcall
  clear b1 hp1 wr1 hw1 hS hf hcall ho hw
  go_enter Tryz.func52, Tryz.ntmps52
  go_wp2_with fail
  rw [unhide HW1]
  refine (unhide HC).mono ?_
  rintro e w2 ⟨rfl, h2, k2⟩
  obtain ⟨v, ev, hp, _, ho, herr⟩ := h2
  obtain ⟨aob, capb, rfl, _⟩ := ho.slice
  have c1 : w2.cell? ⟨w.heap.size + 1, 1, none⟩ = some ev := (cell_of_block hp).trans rfl
  have c0 : w2.cell? ⟨w.heap.size + 1, 0, none⟩ = some (.slice aob f.1.length capb) := (cell_of_block hp).trans rfl
  have B2 := hide ((unhide B1).trans k2.below)
  have G2 := hide ((unhide S1).2.1.below k2.below (by have := unhide ZG; omega))
  have HO := hide ho
  obtain ⟨fb, fe⟩ := f
  simp only at c0 herr
  by_cases hz : fe = 0
  · subst hz
    obtain rfl := herr.none
    clear hp ho herr k2
    go_wp2
    go_ret2
    exact ⟨_, rfl, by show Own _ _ _ (told (fb, 0)); unfold told; rw [if_pos rfl]; exact unhide HO, unhide B2⟩
  · have E2 := hide herr.err
    rcases herr with ⟨h0, _⟩ | ⟨b, x, _, rfl, _⟩
    · exact absurd h0 hz
    clear hp ho k2
    go_wp2_with fail
    refine (number_any _ fe w2 (unhide G2) (unhide E2)).mono ?_
    rintro e w3 ⟨rfl, hb3⟩
    have B3 := hide hb3
    clear hb3
    go_wp2
    go_ret2
    refine ⟨_, rfl, ?_, (unhide B2).trans ((unhide B3).mono (unhide B2).size)⟩
    show Own _ _ _ (told (fb, fe))
    unfold told; rw [if_neg hz]; exact Own.nil _ _
end Go.Proofs.YtgllokinadjiaaaGreatDoor.Ww
namespace Go.Proofs.YtgllokinadjiaaaGreatDoor.Ww
open Go.RowKit

set_option maxRecDepth 20000 in
set_option maxHeartbeats 1000000 in
theorem encodeConfig_any (aoo aon : Option Addr) (no nn co cn : Nat) (old new : List Int) (hno : old.length = no) (hnn : new.length = nn) (w : World) (ho : ∀ b w1, b ≤ w1.heap.size → w.heap.size ≤ b → Below w.heap.size w w1 → Ints b [5, 117] w1 aoo old) (hw : ∀ b w1, b ≤ w1.heap.size → w.heap.size ≤ b → Below w.heap.size w w1 → Ints b [5, 117] w1 aon new) (hS : Start w) :
    Calls Tryz.prog 39 #[.agg #[.slice aoo no co, .slice aon nn cn]] w fun e w' =>
      ∃ v, e = .returned (.tuple #[v, .int .i64 (((putConfig old new ([], 0)).2 : Nat) : Int)]) ∧ Own w.heap.size w' v (told (putConfig old new ([], 0))) ∧ Below w.heap.size w w' := by
  obtain ⟨w1, hw1⟩ : ∃ w1, w.alloc (.cells #[.slice aoo no co, .slice aon nn cn] 24) = w1 := ⟨_, rfl⟩
  have b1 : Below w.heap.size w w1 := by rw [← hw1]; exact (Below.refl _ w).alloc (Nat.le_refl _) _
  have hcall := encC aoo aon no nn co cn old new hno hnn w1 (fun w2 hb2 => ho w1.heap.size w2 hb2.size b1.size (b1.trans (hb2.mono b1.size))) (fun w2 hb2 => hw w1.heap.size w2 hb2.size b1.size (b1.trans (hb2.mono b1.size))) (hS.below b1)
  have S1 := hide (hS.below b1)
  have B1 := hide b1
  have HW1 := hide hw1
  obtain ⟨f, hf⟩ : ∃ f, putConfig old new ([], 0) = f := ⟨_, rfl⟩
  rw [hf] at hcall ⊢
  have HC := hide hcall
  clear b1 hw1 hS hf hcall ho hw
  go_enter Tryz.func39, Tryz.ntmps39
  go_wp2_with fail
  rw [unhide HW1]
  refine (unhide HC).mono ?_
  rintro e w2 ⟨v, rfl, ho, hb⟩
  have HO := hide (ho.rebase (unhide B1).size)
  have B2 := hide ((unhide B1).trans (hb.mono (unhide B1).size))
  clear ho hb
  go_wp2
  go_ret2
  exact ⟨_, rfl, unhide HO, unhide B2⟩
end Go.Proofs.YtgllokinadjiaaaGreatDoor.Ww
