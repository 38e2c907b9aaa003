/- bytes as a string; synodallaw3.known: a contract. -/
import Derived.Test.YtnohkbekljfehaaDoorTCrash
import Derived.Lib.SlBytesConst
import Derived.Laws.BytesArg
namespace Go.Proofs.YtnohkbekljfehaaDoor
open Go.RowKit

/-- bytes as a string. -/
def str (bs : List Nat) : ByteArray := strOfNums (bs.map Int.ofNat)
theorem conv_str {w : World} {ao : Option Addr} {n cap : Nat} {bs : List Nat} (hb : Bytes w ao bs) (hn : bs.length = n) :
    (convert 31 9 (.slice ao n cap)).run Tryd.prog w = .ok (.string (str bs)) w := by
  subst hn
  cases ao with
  | none =>
    obtain rfl := hb.none_nil
    exact run_convert_bytes_nil w 31 5 Tryd.underlying31 Tryd.underlying5 _ _ 9 Tryd.underlying9
  | some a =>
    have hl : (loadCells a bs.length).run Tryd.prog w = .ok ((bs.map Int.ofNat).map (Value.int .u8)).toArray w := by
      have := run_loadCells_list (P := Tryd.prog) w a ((bs.map Int.ofNat).map (Value.int .u8)) (fun j v hj => hb.news j v (by simpa [u8s] using hj))
      simpa using this
    rw [run_convert_bytes_string w 31 9 5 _ _ cap Tryd.underlying31 Tryd.underlying5 Tryd.underlying9, run_bytesToString w _ _ cap (bs.map Int.ofNat) hl, foldl_push_bytes]
    simp [str, strOfNums, ByteArray.empty, ByteArray.emptyWithCapacity]
    rfl
theorem bytes_new (w : World) (bs : List Nat) (h : ∀ x ∈ bs, x < 256) (t : TypeId) (fr : Nat × Nat) : Bytes (w.alloc (.cells (u8s bs).toArray t fr)) (some ⟨w.heap.size, 0, none⟩) bs := by
  refine ⟨h, fun i hi => ⟨_, rfl, ?_⟩⟩
  rw [Addr.add_lit]
  have e : (w.alloc (.cells (u8s bs).toArray t fr)).heap[w.heap.size]? = some (.cells (u8s bs).toArray t fr) := heap_alloc_new _ _
  simp only [World.cell?, e]
  simp [u8s, List.getD_eq_getElem?_getD, List.getElem?_eq_getElem hi]

set_option maxRecDepth 8000 in
theorem known_any (a : Addr) (w : World) (hG : Glob w a) (hz : 1 ≤ w.heap.size) : Calls Tryd.prog 9 #[] w fun ev w' => ev = .returned (.bool true) ∧ Below w.heap.size w w' := by
  have hcv := fun (w : World) (C : Array Value) (n c : Nat) => Lib.run_convert_bytes_const (P := Tryd.prog) w 31 5 C n c Tryd.underlying31 Tryd.underlying5
  have HG := hide hG
  clear hG
  go_enter Tryd.func9, Tryd.ntmps9
  go_wp2_with fail
  refine (new_ok 10 w (by decide) (by decide)).mono ?_
  rintro e w1 ⟨rfl, t1, b1⟩
  have T1 := hide t1
  have B1 := hide b1
  have s1 := b1.size
  clear t1 b1
  have b2 : Below w1.heap.size w1 (w1.alloc (.cells (u8s [97, 98, 99]).toArray 5 (3, 4))) := (Below.refl _ w1).alloc (Nat.le_refl _) _
  have hby := bytes_new w1 [97, 98, 99] (by decide) 5 (3, 4)
  have g2 := ((unhide HG).kept (unhide B1) hz).kept b2 (Nat.le_trans hz s1)
  have t2 := (unhide T1).below b2
  have hne : w1.heap.size ≠ w.heap.size := by have := (unhide T1).lt.2.1; omega
  have s2 : w.heap.size ≤ (w1.alloc (.cells (u8s [97, 98, 99]).toArray 5 (3, 4))).heap.size := Nat.le_trans s1 b2.size
  have eapp : St.append ⟨10, [], 0, 0, 0, false⟩ [97, 98, 99] = (0, ⟨10, [97, 98, 99], 0, 1, 0, false⟩) := rfl
  have hcall := append_any w.heap.size w.heap.size none ⟨10, [], 0, 0, 0, false⟩ a (some ⟨w1.heap.size, 0, none⟩) 3 3 [97, 98, 99] rfl _ t2 g2 hz s2 (by decide) (by decide) (fun w' k => hby.far k (fun x hx => by cases hx; exact hne)) (fun h => by cases h) (by decide)
  rw [eapp] at hcall
  have HC := hide hcall
  have B2 := hide b2
  clear b2 hby g2 t2 eapp hcall
  go_wp2_with fail
  refine (unhide HC).mono ?_
  rintro e w3 ⟨q3, rfl, t3, k3, _⟩
  have T3 := hide t3
  have B3 := hide (((unhide B1).trans ((unhide B2).mono s1)).trans k3.1)
  clear t3 k3 HC
  go_wp2_with fail
  refine (crash_any w.heap.size w.heap.size q3 _ 2 w3 (unhide T3)).mono ?_
  rintro e w4 ⟨rfl, t4, k4⟩
  have ecr : St.crash ⟨10, [97, 98, 99], 0, 1, 0, false⟩ 2 = ⟨10, [97, 98], 2, 1, 0, false⟩ := rfl
  have ekp : St.kept ⟨10, [97, 98, 99], 0, 1, 0, false⟩ 2 = 2 := by decide
  rw [ecr] at t4
  rw [ekp]
  have T4 := hide t4
  have B4 := hide ((unhide B3).trans k4.1)
  clear t4 k4 ecr ekp
  go_wp2_with fail
  refine (bytes_any w.heap.size w.heap.size q3 _ w4 (unhide T4)).mono ?_
  rintro e w5 ⟨v5, rfl, o5, b5⟩
  obtain ⟨ao5, cap5, rfl, _, _, by5, _⟩ := o5.slice
  have cv := conv_str (n := 2) (cap := cap5) by5 rfl
  have es : str [97, 98] = { data := #[97, 98] } := by decide
  have B5 := hide ((unhide B4).trans (b5.mono (unhide B4).size))

  rw [es] at cv
  clear o5 b5 by5 es
  go_wp2
  go_ret
  exact ⟨rfl, unhide B5⟩
end Go.Proofs.YtnohkbekljfehaaDoor
