/- The walk of WireMsgs. -/
import Derived.Test.YthjpdglbliigcaaDoorSameM
import Derived.Test.YthjpdglbliigcaaDoorREncM
import Derived.Test.YthjpdglbliigcaaDoorCutsH
import Derived.Test.YthjpdglbliigcaaDoorSameN
import Derived.Test.YthjpdglbliigcaaDoorMsgB
import Derived.Test.YthjpdglbliigcaaDoorFewM
import Derived.Test.YthjpdglbliigcaaDoorCutsF
import Derived.Deep.RegionHeld3
import Derived.Deep.DrawnRows
import Derived.Deep.DeepCutAuto
import Derived.Deep.CutBlock
namespace Go.Proofs.YthjpdglbliigcaaDoor
open Go.RowKit
attribute [local go_sem ↓] Go.wp_at_zero Go.wp_at_succ

theorem EntsAt.sameE {b : Nat} {w0 w w' : World} {ao : Option Addr} {es : List En} (h : EntsAt w0 ao es) (hb : w0.heap.size ≤ b) (h0 : Below w0.heap.size w0 w) (hs : Same b w w') : EntsAt w' ao es := fun i hi => by
  obtain ⟨blk, off, r, cx, e, c0, c1, c2, c3, c4, c5, hm, rest⟩ := h i hi
  have hc : ∀ a u, w0.cell? a = some u → w'.cell? a = some u := fun a u ha => by
    have hlt := blk_lt ha
    exact hs.cell ((h0.cell hlt).trans ha) (by omega) (by omega)
  exact ⟨blk, off, r, cx, e, hc _ _ c0, hc _ _ c1, hc _ _ c2, hc _ _ c3, hc _ _ c4, hc _ _ c5, fun j hj => by obtain ⟨a, ea, ha⟩ := hm j hj; exact ⟨a, ea, hc _ _ ha⟩, rest⟩
structure Mg.few (m : Mg) : Prop where
  t : m.terms.length < 100
  e : m.es.length < 100
  o : m.old.length < 100
  n : m.new.length < 100
  each : ∀ i, i < m.es.length → (m.es.getD i default).text.size < 300 ∧ (m.es.getD i default).ms.length < 100
/-- a box c with a message; what it leads to lies elsewhere than in the boxes b, b + 1. -/
structure MB (wr : World) (b c : Nat) (m : Mg) (at' ae ao an : Option Addr) (act ace aco acn : Nat) : Prop where
  box : wr.heap[c]? = some (.cells #[.int .i64 m.src, .int .i64 m.to, .int .i64 m.gen, .int .i64 m.kind, .int .i64 m.term, .int .i64 m.index, .int .i64 m.last, .int .i64 m.commit, .bool m.yes, .slice at' m.terms.length act, .slice ae m.es.length ace, .slice ao m.old.length aco, .slice an m.new.length acn] 41 (0, 0))
  room : m.es.length ≤ ace ∧ ace ≤ maxLen ∧ (ae = none → ace = 0)
  t : ∀ w', Same b wr w' → IntsAt w' at' m.terms.length act m.terms
  e : ∀ w', Same b wr w' → EntsAt w' ae m.es
  o : ∀ w', Same b wr w' → IntsAt w' ao m.old.length aco m.old
  n : ∀ w', Same b wr w' → IntsAt w' an m.new.length acn m.new
  in64 : m.in64
  few : m.few
theorem MB.below {wr wz : World} {b c : Nat} {m : Mg} {at' ae ao an : Option Addr} {act ace aco acn : Nat} (h : MB wr b c m at' ae ao an act ace aco acn) (hb : Below wr.heap.size wr wz) : MB wz b c m at' ae ao an act ace aco acn :=
  ⟨(hb.block _ (blk_lt' h.box)).trans h.box, h.room, fun x hx => h.t x ((Same.below hb).trans hx), fun x hx => h.e x ((Same.below hb).trans hx), fun x hx => h.o x ((Same.below hb).trans hx), fun x hx => h.n x ((Same.below hb).trans hx), h.in64, h.few⟩
theorem MB.same {wr wz : World} {b c : Nat} {m : Mg} {at' ae ao an : Option Addr} {act ace aco acn : Nat} (h : MB wr b c m at' ae ao an act ace aco acn) (hs : Same b wr wz) (hc : wz.heap[c]? = wr.heap[c]?) : MB wz b c m at' ae ao an act ace aco acn :=
  ⟨hc.trans h.box, h.room, fun x hx => h.t x (hs.trans hx), fun x hx => h.e x (hs.trans hx), fun x hx => h.o x (hs.trans hx), fun x hx => h.n x (hs.trans hx), h.in64, h.few⟩
def goodM (m : Mg) : Mg := ⟨m.src, m.to, m.gen, 1 + m.kind % 15, m.term, m.index, m.last, m.commit, m.yes, m.terms.take 64, (m.es.take 64).map goodE, m.old.take 9, m.new.take 9⟩
theorem mod15_in64 (n : Int) : In64 (1 + n % 15) := by unfold In64; omega
theorem goodE_in64 {e : En} (h : e.in64) : (goodE e).in64 := ⟨by show In64 (e.kind % 5); unfold In64; omega, h.client, h.seq, fun y hy => h.ms y (List.mem_of_mem_take hy), by show In64 (e.to % 3); unfold In64; omega⟩
theorem goodM_in64 {m : Mg} (h : m.in64) : (goodM m).in64 :=
  ⟨h.src, h.to', h.gen, mod15_in64 _, h.term, h.index, h.last, h.commit, fun y hy => h.terms y (List.mem_of_mem_take hy), fun e he => by
    obtain ⟨x, hx, rfl⟩ := List.mem_map.1 he
    exact goodE_in64 (h.es x (List.mem_of_mem_take hx)), fun y hy => h.old y (List.mem_of_mem_take hy), fun y hy => h.new y (List.mem_of_mem_take hy)⟩
theorem goodM_few (m : Mg) : (goodM m).few := by
  refine ⟨?_, ?_, ?_, ?_, fun i hi => ?_⟩
  · show (m.terms.take 64).length < 100; rw [List.length_take]; omega
  · show ((m.es.take 64).map goodE).length < 100; rw [List.length_map, List.length_take]; omega
  · show (m.old.take 9).length < 100; rw [List.length_take]; omega
  · show (m.new.take 9).length < 100; rw [List.length_take]; omega
  · have hi' : i < ((m.es.take 64).map goodE).length := hi
    have he : ((m.es.take 64).map goodE).getD i default = goodE ((m.es.take 64).getD i default) := by
      rw [List.length_map] at hi'
      rw [List.getD_eq_getElem?_getD, List.getD_eq_getElem?_getD, List.getElem?_map, List.getElem?_eq_getElem hi']; rfl
    show (((m.es.take 64).map goodE).getD i default).text.size < 300 ∧ (((m.es.take 64).map goodE).getD i default).ms.length < 100
    rw [he]
    refine ⟨?_, ?_⟩
    · have := goodT_size ((m.es.take 64).getD i default).text
      show (goodT _).size < 300; omega
    · show (List.take 9 _).length < 100
      rw [List.length_take]; omega
section
variable {w wr : World} {b c : Nat} {m : Mg} {at' ae ao an : Option Addr} {act ace aco acn : Nat}
theorem mb_enc (h : MB wr b c m at' ae ao an act ace aco acn) (hS : Start wr) :
    Calls Tryd.prog 16 #[.agg #[.int .i64 m.src, .int .i64 m.to, .int .i64 m.gen, .int .i64 m.kind, .int .i64 m.term, .int .i64 m.index, .int .i64 m.last, .int .i64 m.commit, .bool m.yes, .slice at' m.terms.length act, .slice ae m.es.length ace, .slice ao m.old.length aco, .slice an m.new.length acn]] wr fun e w' => ∃ v, e = .returned (.tuple #[v, .int .i64 (((m.put ([], 0)).2 : Nat) : Int)]) ∧ Own wr.heap.size w' v (told (m.put ([], 0))) ∧ Below wr.heap.size wr w' :=
  encodeMsg_any m.src m.to m.gen m.kind m.term m.index m.last m.commit m.yes at' m.terms.length act m.terms rfl ae m.es.length ace m.es rfl (Nat.le_trans h.room.1 h.room.2.1) ao an m.old.length m.new.length aco acn m.old m.new rfl rfl wr
    (fun _ _ _ hb h1 => (h.t wr (Same.refl _ _)).ints hb h1) (fun _ _ _ hb h1 => (h.e wr (Same.refl _ _)).ents hb h1) (fun _ _ _ hb h1 => (h.o wr (Same.refl _ _)).ints hb h1) (fun _ _ _ hb h1 => (h.n wr (Same.refl _ _)).ints hb h1) hS
theorem mb_renc (h : MB wr b c m at' ae ao an act ace aco acn) :
    Calls Tryd.prog 17 #[.agg #[.int .i64 m.src, .int .i64 m.to, .int .i64 m.gen, .int .i64 m.kind, .int .i64 m.term, .int .i64 m.index, .int .i64 m.last, .int .i64 m.commit, .bool m.yes, .slice at' m.terms.length act, .slice ae m.es.length ace, .slice ao m.old.length aco, .slice an m.new.length acn]] wr fun e w' => ∃ v, e = .returned (.tuple #[v, .int .i64 (((m.put ([], 0)).2 : Nat) : Int)]) ∧ Own wr.heap.size w' v (told (m.put ([], 0))) ∧ Below wr.heap.size wr w' :=
  rencM_any m at' ae ao an m.terms.length act m.es.length ace m.old.length aco m.new.length acn rfl rfl rfl rfl (by have := h.few.t; unfold maxLen; omega) (Nat.le_trans h.room.1 h.room.2.1) (by have := h.few.o; unfold maxLen; omega) (by have := h.few.n; unfold maxLen; omega) wr (h.t wr (Same.refl _ _)).are (h.e wr (Same.refl _ _)) (h.o wr (Same.refl _ _)).are (h.n wr (Same.refl _ _)).are
theorem mb_encC (h : MB wr b c m at' ae ao an act ace aco acn) (hS : Start wr) :
    Calls Tryd.prog 18 #[.agg #[.slice ao m.old.length aco, .slice an m.new.length acn]] wr fun e w' => ∃ v, e = .returned (.tuple #[v, .int .i64 (((putConfig m.old m.new ([], 0)).2 : Nat) : Int)]) ∧ Own wr.heap.size w' v (told (putConfig m.old m.new ([], 0))) ∧ Below wr.heap.size wr w' :=
  encodeConfig_any ao an m.old.length m.new.length aco acn m.old m.new rfl rfl wr (fun _ _ _ hb h1 => (h.o wr (Same.refl _ _)).ints hb h1) (fun _ _ _ hb h1 => (h.n wr (Same.refl _ _)).ints hb h1) hS
theorem mb_rencC (h : MB wr b c m at' ae ao an act ace aco acn) :
    Calls Tryd.prog 19 #[.agg #[.slice ao m.old.length aco, .slice an m.new.length acn]] wr fun e w' => ∃ v, e = .returned (.tuple #[v, .int .i64 (((putConfig m.old m.new ([], 0)).2 : Nat) : Int)]) ∧ Own wr.heap.size w' v (told (putConfig m.old m.new ([], 0))) ∧ Below wr.heap.size wr w' :=
  rencC_any ao an m.old.length m.new.length aco acn (by have := h.few.o; unfold maxLen; omega) (by have := h.few.n; unfold maxLen; omega) m.old m.new rfl rfl wr (h.o wr (Same.refl _ _)).are (h.n wr (Same.refl _ _)).are
end
def sameM (x y : Mg) : Bool := decide (x.src = y.src ∧ x.to = y.to ∧ x.gen = y.gen ∧ x.kind = y.kind ∧ x.term = y.term ∧ x.index = y.index ∧ x.last = y.last ∧ x.commit = y.commit ∧ x.yes = y.yes ∧ x.terms = y.terms ∧ sameEs x.es y.es = true ∧ x.old = y.old ∧ x.new = y.new)
theorem sameM_self (x : Mg) : sameM x x = true := by unfold sameM; simp [sameEs_self]
section
variable {Y : World} {m o : Mg} {at' ae ao an dt de d_o dn : Option Addr} {act ace aco acn dct dce dco dcn : Nat}
theorem sm_any (hf : m.few) (k1 : IntsR Y at' m.terms) (k2 : IntsR Y dt o.terms) (k3 : EntsAt Y ae m.es) (k4 : EntsAt Y de o.es) (k5 : IntsR Y ao m.old) (k6 : IntsR Y d_o o.old) (k7 : IntsR Y an m.new) (k8 : IntsR Y dn o.new) :
    Calls Tryd.prog 20 #[.agg #[.int .i64 m.src, .int .i64 m.to, .int .i64 m.gen, .int .i64 m.kind, .int .i64 m.term, .int .i64 m.index, .int .i64 m.last, .int .i64 m.commit, .bool m.yes, .slice at' m.terms.length act, .slice ae m.es.length ace, .slice ao m.old.length aco, .slice an m.new.length acn], .agg #[.int .i64 o.src, .int .i64 o.to, .int .i64 o.gen, .int .i64 o.kind, .int .i64 o.term, .int .i64 o.index, .int .i64 o.last, .int .i64 o.commit, .bool o.yes, .slice dt o.terms.length dct, .slice de o.es.length dce, .slice d_o o.old.length dco, .slice dn o.new.length dcn]] Y fun e w' => e = .returned (.bool (sameM m o)) ∧ Below Y.heap.size Y w' :=
  sameMsg_any m.src m.to m.gen m.kind m.term m.index m.last m.commit o.src o.to o.gen o.kind o.term o.index o.last o.commit m.yes o.yes at' ae ao an dt de d_o dn _ act _ ace _ aco _ acn _ dct _ dce _ dco _ dcn m.terms o.terms m.old o.old m.new o.new m.es o.es rfl rfl rfl rfl rfl rfl rfl rfl (by have := hf.t; omega) (by have := hf.e; omega) (by have := hf.o; omega) (by have := hf.n; omega) (fun i hi => by have := (hf.each i hi).2; omega) Y k1 k2 k3 k4 k5 k6 k7 k8
theorem rsm_any (hf : m.few) (k1 : IntsR Y at' m.terms) (k2 : IntsR Y dt o.terms) (k3 : EntsAt Y ae m.es) (k4 : EntsAt Y de o.es) (k5 : IntsR Y ao m.old) (k6 : IntsR Y d_o o.old) (k7 : IntsR Y an m.new) (k8 : IntsR Y dn o.new) :
    Calls Tryd.prog 21 #[.agg #[.int .i64 m.src, .int .i64 m.to, .int .i64 m.gen, .int .i64 m.kind, .int .i64 m.term, .int .i64 m.index, .int .i64 m.last, .int .i64 m.commit, .bool m.yes, .slice at' m.terms.length act, .slice ae m.es.length ace, .slice ao m.old.length aco, .slice an m.new.length acn], .agg #[.int .i64 o.src, .int .i64 o.to, .int .i64 o.gen, .int .i64 o.kind, .int .i64 o.term, .int .i64 o.index, .int .i64 o.last, .int .i64 o.commit, .bool o.yes, .slice dt o.terms.length dct, .slice de o.es.length dce, .slice d_o o.old.length dco, .slice dn o.new.length dcn]] Y fun e w' => e = .returned (.bool (sameM m o)) ∧ Below Y.heap.size Y w' :=
  rsameMsg_any m.src m.to m.gen m.kind m.term m.index m.last m.commit o.src o.to o.gen o.kind o.term o.index o.last o.commit m.yes o.yes at' ae ao an dt de d_o dn _ act _ ace _ aco _ acn _ dct _ dce _ dco _ dcn m.terms o.terms m.old o.old m.new o.new m.es o.es rfl rfl rfl rfl rfl rfl rfl rfl (by have := hf.t; omega) (by have := hf.e; omega) (by have := hf.o; omega) (by have := hf.n; omega) (fun i hi => by have := (hf.each i hi).2; omega) Y k1 k2 k3 k4 k5 k6 k7 k8
end
end Go.Proofs.YthjpdglbliigcaaDoor
