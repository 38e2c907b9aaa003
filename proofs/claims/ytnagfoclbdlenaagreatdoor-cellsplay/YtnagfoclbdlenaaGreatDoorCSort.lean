/- slices.Sorted(maps.Keys(m)) at this program: contracts. -/
import Derived.Test.YtnagfoclbdlenaaGreatDoorCShelf
namespace Go.Proofs.YtnagfoclbdlenaaGreatDoor
open Go.RowKit Go.Maps Go.Sort Go.Shelf

theorem sorts_ints (m : Nat) : AnyZI.SortsIn Tryz.prog Tryz.sortedA_ren Fence.wide m :=
  ⟨fun blk off cap ss W hH hblk hsz => callsIn_wide.2 (AnyM.slices_Sort_int Tryz.sortA blk off cap ss W hH hblk hsz),
   fun p cap W => callsIn_wide.2 (AnyM.slices_Sort_int_none Tryz.sortA p cap W)⟩
/-- what hands the keys out, one by one. -/
def keysV (B : Nat) : Value := .func (.func 56) #[] #[.pointer (some ⟨B, 0, none⟩)]
theorem keys_any (mb : Option Nat) (w : World) : Calls Tryz.prog 45 #[.map mb] w fun e w' => e = .returned (keysV w.heap.size) ∧ w' = w.alloc (.cells #[.map mb] 62) :=
  (callsIn_wide (n := 5)).1 (AnyZI.keys_in Tryz.keysA Fence.wide 5 trivial rfl mb w)
theorem sorted_any {H : Type} (B b nn : Nat) (D0 : DataW H) (R : Value → Option (DataW H × List MemPlace)) (w : World) (hB : w.heap[B]? = some (.cells #[.map (some b)] 62 (0, 0))) (hown : w.ownsMap Tryz.prog 3 R b nn D0) (hmax : Maps.size D0 ≤ 1000000) :
    Calls Tryz.prog 44 #[keysV B] w fun e w' => ∃ (v : Value) (ss : List Int), e = .returned v ∧ ss.Perm (intKeys D0) ∧
      w'.ownsRow w.heap.size 3 1 v ss.length ((ss.mergeSort (fun x y => decide (x ≤ y))).map encZ) ∧ (v = .slice none 0 0 ↔ ss = []) ∧ Below w.heap.size w w' := by
  have hBl : B < w.heap.size := by
    by_cases hp : B < w.heap.size
    · exact hp
    · rw [Array.getElem?_eq_none (by omega)] at hB; cases hB
  have hc : w.cell? ⟨B, 0, none⟩ = some (.map (some b)) := by simp [World.cell?, hB]
  have hseq : SeqGives Fence.wide 2 Tryz.prog 56 #[.pointer (some ⟨B, 0, none⟩)] encZ (fun ss => ss.Perm (intKeys D0)) (Maps.size D0) w :=
    AnyZI.keys_gives (ρ := Tryz.keysA_ren) { Tryz.keysA with } Fence.wide _ trivial rfl (by omega) B b nn D0 _ hBl hc hown
  have cS := AnyZI.sorted_in Tryz.sortedA Fence.wide 5 trivial trivial trivial trivial rfl (by omega) (sorts_ints _) (enters_of Tryz.func55 (by kernel_rfl) rfl) 56 #[.pointer (some ⟨B, 0, none⟩)] trivial (enters_of Tryz.func56 (by kernel_rfl) rfl) _ _ (by unfold maxLen; omega) (by omega) _ hseq
  change CallsIn _ _ Tryz.prog 44 _ _ _ at cS
  exact (callsIn_wide (n := 5)).1 cS
theorem clone_map {H : Type} (R : Value → Option (DataW H × List MemPlace)) (b n : Nat) (D : DataW H) (w : World) (hown : w.ownsMap Tryz.prog 3 R b n D) :
    Calls Tryz.prog 41 #[.map (some b)] w fun e w' => e = .returned (.map (some w.heap.size)) ∧ w'.ownsMap Tryz.prog 3 R w.heap.size n D ∧ w'.ownsMap Tryz.prog 3 R b n D ∧ Below w.heap.size w w' :=
  AnyW.maps_Clone_owns Tryz.cloneA 3 R b n D w hown
end Go.Proofs.YtnagfoclbdlenaaGreatDoor
