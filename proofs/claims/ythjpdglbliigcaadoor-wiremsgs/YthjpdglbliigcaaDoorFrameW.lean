/- wire.Frame: a contract. -/
import Derived.Test.YthjpdglbliigcaaDoorPut
import Derived.Test.YthjpdglbliigcaaDoorCrcW
namespace Go.Proofs.YthjpdglbliigcaaDoor
open Go.RowKit

theorem Bytes.news {w : World} {a : Addr} {bs : List Nat} (h : Bytes w (some a) bs) : ∀ j u, (u8s bs)[j]? = some u → w.cell? (a.add j) = some u := by
  intro j u hj
  have hj' : j < bs.length := by
    have := (List.getElem?_eq_some_iff.1 hj).1
    simpa [u8s] using this
  obtain ⟨a', ea, hc⟩ := h.2 j hj'
  obtain rfl := Option.some.inj ea
  rw [hc, ← hj, u8s, List.getElem?_map, List.getD_eq_getElem?_getD, List.getElem?_eq_getElem hj']; rfl
theorem Bytes.none_nil {w : World} {bs : List Nat} (hb : Bytes w none bs) : bs = [] := by
  cases bs with
  | nil => rfl
  | cons x l => obtain ⟨a, ea, _⟩ := hb.2 0 (by simp); cases ea

/-- Crc of whatever slice of bytes. -/
theorem crc_any (ao : Option Addr) (cap : Nat) (bs : List Nat) (w : World) (hb : Bytes w ao bs) (hc : ao = none → cap = 0) (hl : bs.length ≤ 140737488355328) (hT : Table w) :
    Calls Tryd.prog 30 #[.slice ao bs.length cap] w fun e w' => e = .returned (.int .u32 ((Sum.crc bs : Nat) : Int)) ∧ w' = w := by
  cases ao with
  | none => obtain rfl := hc rfl; exact crc_none bs w hb
  | some a => exact crc_some a cap bs w hb hl hT
theorem joined_any (ao : Option Addr) (cap : Nat) (bs : List Nat) (w : World) (hb : Bytes w ao bs) (hl : bs.length ≤ 140737488355328) :
    Calls Tryd.prog 75 #[.slice ao bs.length cap] w fun e w' => e = .returned (.int .u64 ((joinTo 0 bs : Nat) : Int)) ∧ w' = w := by
  cases ao with
  | none => exact joined_none cap bs w hb
  | some a => exact joined_some a cap bs w hb hl
theorem crc_len (ao : Option Addr) (n cap : Nat) (bs : List Nat) (hn : bs.length = n) (w : World) (hb : Bytes w ao bs) (hc : ao = none → cap = 0) (hl : n ≤ 140737488355328) (hT : Table w) :
    Calls Tryd.prog 30 #[.slice ao n cap] w fun e w' => e = .returned (.int .u32 ((Sum.crc bs : Nat) : Int)) ∧ w' = w := by
  subst hn; exact crc_any ao cap bs w hb hc hl hT
theorem joined_len (ao : Option Addr) (n cap : Nat) (bs : List Nat) (hn : bs.length = n) (w : World) (hb : Bytes w ao bs) (hl : n ≤ 140737488355328) :
    Calls Tryd.prog 75 #[.slice ao n cap] w fun e w' => e = .returned (.int .u64 ((joinTo 0 bs : Nat) : Int)) ∧ w' = w := by
  subst hn; exact joined_any ao cap bs w hb hl
theorem Bytes.drop {w : World} {a : Addr} {bs : List Nat} (h : Bytes w (some a) bs) (k : Nat) : Bytes w (some (a.add k)) (bs.drop k) := by
  refine ⟨fun x hx => h.1 x (List.mem_of_mem_drop hx), fun i hi => ⟨_, rfl, ?_⟩⟩
  rw [List.length_drop] at hi
  obtain ⟨a', ea, hc⟩ := h.2 (k + i) (by omega)
  obtain rfl := Option.some.inj ea
  rw [Addr.add_add, hc]
  simp [List.getD_eq_getElem?_getD]
theorem Bytes.take {w : World} {ao : Option Addr} {bs : List Nat} (h : Bytes w ao bs) (k : Nat) : Bytes w ao (bs.take k) := by
  refine ⟨fun x hx => h.1 x (List.mem_of_mem_take hx), fun i hi => ?_⟩
  rw [List.length_take] at hi
  obtain ⟨a', ea, hc⟩ := h.2 i (by omega)
  refine ⟨a', ea, ?_⟩
  rw [hc, List.getD_eq_getElem?_getD, List.getD_eq_getElem?_getD, List.getElem?_take_of_lt (by omega)]
end Go.Proofs.YthjpdglbliigcaaDoor
