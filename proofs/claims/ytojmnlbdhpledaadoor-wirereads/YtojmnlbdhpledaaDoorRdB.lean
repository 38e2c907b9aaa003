/- What WireReads' walk calls. What WireReads' walk calls, in boxes. An argument that is a slice of numbers. -/
import Derived.Test.YtojmnlbdhpledaaDoorREncM
import Derived.Test.YtojmnlbdhpledaaDoorRdA
import Derived.Test.YtojmnlbdhpledaaDoorRConf
import Derived.Test.YtojmnlbdhpledaaDoorCutsH
import Derived.Test.YtojmnlbdhpledaaDoorSameN
import Derived.Test.YtojmnlbdhpledaaDoorEntA
import Derived.Test.YtojmnlbdhpledaaDoorFewM
import Derived.Test.YtojmnlbdhpledaaDoorCutsF
import Derived.Deep.RegionHeld3
import Derived.Deep.DrawnRows
import Derived.Deep.DeepCutAuto
import Derived.Deep.CutBlock
namespace Go.Proofs.YtojmnlbdhpledaaDoor
open Go.RowKit
attribute [local go_sem ↓] Go.wp_at_zero Go.wp_at_succ

theorem EntsAt.sameE {b : Nat} {w0 w w' : World} {ao : Option Addr} {es : List En} (h : EntsAt w0 ao es) (hb : w0.heap.size ≤ b) (h0 : Below w0.heap.size w0 w) (hs : Same b w w') : EntsAt w' ao es := fun i hi => by
  obtain ⟨blk, off, r, cx, e, c0, c1, c2, c3, c4, c5, hm, rest⟩ := h i hi
  have hc : ∀ a u, w0.cell? a = some u → w'.cell? a = some u := fun a u ha => by
    have hlt := blk_lt ha
    exact hs.cell ((h0.cell hlt).trans ha) (by omega) (by omega)
  exact ⟨blk, off, r, cx, e, hc _ _ c0, hc _ _ c1, hc _ _ c2, hc _ _ c3, hc _ _ c4, hc _ _ c5, fun j hj => by obtain ⟨a, ea, ha⟩ := hm j hj; exact ⟨a, ea, hc _ _ ha⟩, rest⟩
structure Mg.few (m : Mg) : Prop where
  t : m.terms.length < 100
  e : m.es.length < 100
  o : m.old.length < 100
  n : m.new.length < 100
  each : ∀ i, i < m.es.length → (m.es.getD i default).text.size < 300 ∧ (m.es.getD i default).ms.length < 100
/-- a box c with a message; what it leads to lies elsewhere than in the boxes b, b + 1. -/
structure MB (wr : World) (b c : Nat) (m : Mg) (at' ae ao an : Option Addr) (act ace aco acn : Nat) : Prop where
  box : wr.heap[c]? = some (.cells #[.int .i64 m.src, .int .i64 m.to, .int .i64 m.gen, .int .i64 m.kind, .int .i64 m.term, .int .i64 m.index, .int .i64 m.last, .int .i64 m.commit, .bool m.yes, .slice at' m.terms.length act, .slice ae m.es.length ace, .slice ao m.old.length aco, .slice an m.new.length acn] 41 (0, 0))
  room : m.es.length ≤ ace ∧ ace ≤ maxLen ∧ (ae = none → ace = 0)
  t : ∀ w', Same b wr w' → IntsAt w' at' m.terms.length act m.terms
  e : ∀ w', Same b wr w' → EntsAt w' ae m.es
  o : ∀ w', Same b wr w' → IntsAt w' ao m.old.length aco m.old
  n : ∀ w', Same b wr w' → IntsAt w' an m.new.length acn m.new
  in64 : m.in64
  few : m.few
theorem MB.below {wr wz : World} {b c : Nat} {m : Mg} {at' ae ao an : Option Addr} {act ace aco acn : Nat} (h : MB wr b c m at' ae ao an act ace aco acn) (hb : Below wr.heap.size wr wz) : MB wz b c m at' ae ao an act ace aco acn :=
  ⟨(hb.block _ (blk_lt' h.box)).trans h.box, h.room, fun x hx => h.t x ((Same.below hb).trans hx), fun x hx => h.e x ((Same.below hb).trans hx), fun x hx => h.o x ((Same.below hb).trans hx), fun x hx => h.n x ((Same.below hb).trans hx), h.in64, h.few⟩
theorem MB.same {wr wz : World} {b c : Nat} {m : Mg} {at' ae ao an : Option Addr} {act ace aco acn : Nat} (h : MB wr b c m at' ae ao an act ace aco acn) (hs : Same b wr wz) (hc : wz.heap[c]? = wr.heap[c]?) : MB wz b c m at' ae ao an act ace aco acn :=
  ⟨hc.trans h.box, h.room, fun x hx => h.t x (hs.trans hx), fun x hx => h.e x (hs.trans hx), fun x hx => h.o x (hs.trans hx), fun x hx => h.n x (hs.trans hx), h.in64, h.few⟩
def goodM (m : Mg) : Mg := ⟨m.src, m.to, m.gen, 1 + m.kind % 15, m.term, m.index, m.last, m.commit, m.yes, m.terms.take 64, (m.es.take 64).map goodE, m.old.take 9, m.new.take 9⟩
theorem mod15_in64 (n : Int) : In64 (1 + n % 15) := by unfold In64; omega
theorem goodE_in64 {e : En} (h : e.in64) : (goodE e).in64 := ⟨by show In64 (e.kind % 5); unfold In64; omega, h.client, h.seq, fun y hy => h.ms y (List.mem_of_mem_take hy), by show In64 (e.to % 3); unfold In64; omega⟩
theorem goodM_in64 {m : Mg} (h : m.in64) : (goodM m).in64 :=
  ⟨h.src, h.to', h.gen, mod15_in64 _, h.term, h.index, h.last, h.commit, fun y hy => h.terms y (List.mem_of_mem_take hy), fun e he => by
    obtain ⟨x, hx, rfl⟩ := List.mem_map.1 he
    exact goodE_in64 (h.es x (List.mem_of_mem_take hx)), fun y hy => h.old y (List.mem_of_mem_take hy), fun y hy => h.new y (List.mem_of_mem_take hy)⟩
theorem goodM_few (m : Mg) : (goodM m).few := by
  refine ⟨?_, ?_, ?_, ?_, fun i hi => ?_⟩
  · show (m.terms.take 64).length < 100; rw [List.length_take]; omega
  · show ((m.es.take 64).map goodE).length < 100; rw [List.length_map, List.length_take]; omega
  · show (m.old.take 9).length < 100; rw [List.length_take]; omega
  · show (m.new.take 9).length < 100; rw [List.length_take]; omega
  · have hi' : i < ((m.es.take 64).map goodE).length := hi
    have he : ((m.es.take 64).map goodE).getD i default = goodE ((m.es.take 64).getD i default) := by
      rw [List.length_map] at hi'
      rw [List.getD_eq_getElem?_getD, List.getD_eq_getElem?_getD, List.getElem?_map, List.getElem?_eq_getElem hi']; rfl
    show (((m.es.take 64).map goodE).getD i default).text.size < 300 ∧ (((m.es.take 64).map goodE).getD i default).ms.length < 100
    rw [he]
    refine ⟨?_, ?_⟩
    · have := goodT_size ((m.es.take 64).getD i default).text
      show (goodT _).size < 300; omega
    · show (List.take 9 _).length < 100
      rw [List.length_take]; omega
section
variable {w wr : World} {b c : Nat} {m : Mg} {at' ae ao an : Option Addr} {act ace aco acn : Nat}
theorem mb_enc (h : MB wr b c m at' ae ao an act ace aco acn) (hS : Start wr) :
    Calls Tryd.prog 16 #[.agg #[.int .i64 m.src, .int .i64 m.to, .int .i64 m.gen, .int .i64 m.kind, .int .i64 m.term, .int .i64 m.index, .int .i64 m.last, .int .i64 m.commit, .bool m.yes, .slice at' m.terms.length act, .slice ae m.es.length ace, .slice ao m.old.length aco, .slice an m.new.length acn]] wr fun e w' => ∃ v, e = .returned (.tuple #[v, .int .i64 (((m.put ([], 0)).2 : Nat) : Int)]) ∧ Own wr.heap.size w' v (told (m.put ([], 0))) ∧ Below wr.heap.size wr w' :=
  encodeMsg_any m.src m.to m.gen m.kind m.term m.index m.last m.commit m.yes at' m.terms.length act m.terms rfl ae m.es.length ace m.es rfl (Nat.le_trans h.room.1 h.room.2.1) ao an m.old.length m.new.length aco acn m.old m.new rfl rfl wr
    (fun _ _ _ hb h1 => (h.t wr (Same.refl _ _)).ints hb h1) (fun _ _ _ hb h1 => (h.e wr (Same.refl _ _)).ents hb h1) (fun _ _ _ hb h1 => (h.o wr (Same.refl _ _)).ints hb h1) (fun _ _ _ hb h1 => (h.n wr (Same.refl _ _)).ints hb h1) hS
theorem mb_renc (h : MB wr b c m at' ae ao an act ace aco acn) :
    Calls Tryd.prog 17 #[.agg #[.int .i64 m.src, .int .i64 m.to, .int .i64 m.gen, .int .i64 m.kind, .int .i64 m.term, .int .i64 m.index, .int .i64 m.last, .int .i64 m.commit, .bool m.yes, .slice at' m.terms.length act, .slice ae m.es.length ace, .slice ao m.old.length aco, .slice an m.new.length acn]] wr fun e w' => ∃ v, e = .returned (.tuple #[v, .int .i64 (((m.put ([], 0)).2 : Nat) : Int)]) ∧ Own wr.heap.size w' v (told (m.put ([], 0))) ∧ Below wr.heap.size wr w' :=
  rencM_any m at' ae ao an m.terms.length act m.es.length ace m.old.length aco m.new.length acn rfl rfl rfl rfl (by have := h.few.t; unfold maxLen; omega) (Nat.le_trans h.room.1 h.room.2.1) (by have := h.few.o; unfold maxLen; omega) (by have := h.few.n; unfold maxLen; omega) wr (h.t wr (Same.refl _ _)).are (h.e wr (Same.refl _ _)) (h.o wr (Same.refl _ _)).are (h.n wr (Same.refl _ _)).are
theorem mb_encC (h : MB wr b c m at' ae ao an act ace aco acn) (hS : Start wr) :
    Calls Tryd.prog 18 #[.agg #[.slice ao m.old.length aco, .slice an m.new.length acn]] wr fun e w' => ∃ v, e = .returned (.tuple #[v, .int .i64 (((putConfig m.old m.new ([], 0)).2 : Nat) : Int)]) ∧ Own wr.heap.size w' v (told (putConfig m.old m.new ([], 0))) ∧ Below wr.heap.size wr w' :=
  encodeConfig_any ao an m.old.length m.new.length aco acn m.old m.new rfl rfl wr (fun _ _ _ hb h1 => (h.o wr (Same.refl _ _)).ints hb h1) (fun _ _ _ hb h1 => (h.n wr (Same.refl _ _)).ints hb h1) hS
theorem mb_rencC (h : MB wr b c m at' ae ao an act ace aco acn) :
    Calls Tryd.prog 19 #[.agg #[.slice ao m.old.length aco, .slice an m.new.length acn]] wr fun e w' => ∃ v, e = .returned (.tuple #[v, .int .i64 (((putConfig m.old m.new ([], 0)).2 : Nat) : Int)]) ∧ Own wr.heap.size w' v (told (putConfig m.old m.new ([], 0))) ∧ Below wr.heap.size wr w' :=
  rencC_any ao an m.old.length m.new.length aco acn (by have := h.few.o; unfold maxLen; omega) (by have := h.few.n; unfold maxLen; omega) m.old m.new rfl rfl wr (h.o wr (Same.refl _ _)).are (h.n wr (Same.refl _ _)).are
end
def sameM (x y : Mg) : Bool := decide (x.src = y.src ∧ x.to = y.to ∧ x.gen = y.gen ∧ x.kind = y.kind ∧ x.term = y.term ∧ x.index = y.index ∧ x.last = y.last ∧ x.commit = y.commit ∧ x.yes = y.yes ∧ x.terms = y.terms ∧ sameEs x.es y.es = true ∧ x.old = y.old ∧ x.new = y.new)
theorem sameM_self (x : Mg) : sameM x x = true := by unfold sameM; simp [sameEs_self]
section
variable {Y : World} {m o : Mg} {at' ae ao an dt de d_o dn : Option Addr} {act ace aco acn dct dce dco dcn : Nat}
theorem rsm_any (hf : m.few) (k1 : IntsR Y at' m.terms) (k2 : IntsR Y dt o.terms) (k3 : EntsAt Y ae m.es) (k4 : EntsAt Y de o.es) (k5 : IntsR Y ao m.old) (k6 : IntsR Y d_o o.old) (k7 : IntsR Y an m.new) (k8 : IntsR Y dn o.new) :
    Calls Tryd.prog 21 #[.agg #[.int .i64 m.src, .int .i64 m.to, .int .i64 m.gen, .int .i64 m.kind, .int .i64 m.term, .int .i64 m.index, .int .i64 m.last, .int .i64 m.commit, .bool m.yes, .slice at' m.terms.length act, .slice ae m.es.length ace, .slice ao m.old.length aco, .slice an m.new.length acn], .agg #[.int .i64 o.src, .int .i64 o.to, .int .i64 o.gen, .int .i64 o.kind, .int .i64 o.term, .int .i64 o.index, .int .i64 o.last, .int .i64 o.commit, .bool o.yes, .slice dt o.terms.length dct, .slice de o.es.length dce, .slice d_o o.old.length dco, .slice dn o.new.length dcn]] Y fun e w' => e = .returned (.bool (sameM m o)) ∧ Below Y.heap.size Y w' :=
  rsameMsg_any m.src m.to m.gen m.kind m.term m.index m.last m.commit o.src o.to o.gen o.kind o.term o.index o.last o.commit m.yes o.yes at' ae ao an dt de d_o dn _ act _ ace _ aco _ acn _ dct _ dce _ dco _ dcn m.terms o.terms m.old o.old m.new o.new m.es o.es rfl rfl rfl rfl rfl rfl rfl rfl (by have := hf.t; omega) (by have := hf.e; omega) (by have := hf.o; omega) (by have := hf.n; omega) (fun i hi => by have := (hf.each i hi).2; omega) Y k1 k2 k3 k4 k5 k6 k7 k8
end
end Go.Proofs.YtojmnlbdhpledaaDoor
namespace Go.Proofs.YtojmnlbdhpledaaDoor
open Go.RowKit

/-- a slice's numbers. -/
def Nums (w : World) (ao : Option Addr) (xs : List Int) : Prop := ∀ i, i < xs.length → ∃ a, ao = some a ∧ w.cell? (a.add i) = some (.int .i64 (xs.getD i 0)) ∧ -9223372036854775808 ≤ xs.getD i 0 ∧ xs.getD i 0 ≤ 9223372036854775807
theorem within_nat (n m : Int) (k : Nat) (hk : n % m = k) (w : World) (h1 : 0 < m) (h2 : m ≤ 1000000000000) :
    Calls Tryd.prog 24 #[.int .i64 n, .int .i64 m] w fun ev w' => ev = .returned (.int .i64 (k : Int)) ∧ w' = w := by
  rw [← hk]; exact within_any n m w h1 h2
theorem within_some (a : Int) (n : Nat) (hn : n ≤ 100000) (w : World) :
    Calls Tryd.prog 24 #[.int .i64 a, .int .i64 ((n : Int) + 1)] w fun ev w' => ∃ k : Nat, k ≤ n ∧ ev = .returned (.int .i64 (k : Int)) ∧ w' = w := by
  refine (within_any a ((n : Int) + 1) w (by omega) (by omega)).mono ?_
  rintro e w' ⟨rfl, rfl⟩
  have h1 := Int.emod_nonneg a (show (n : Int) + 1 ≠ 0 by omega)
  have h2 := Int.emod_lt_of_pos a (show (0 : Int) < (n : Int) + 1 by omega)
  exact ⟨(a % ((n : Int) + 1)).toNat, by omega, by rw [Int.toNat_of_nonneg h1], rfl⟩
theorem u8_add (x z : Nat) : IntKind.u8.wrap ((x : Int) + (z : Int)) = (((x + z) % 256 : Nat) : Int) := by
  simp [IntKind.wrap, IntKind.bits, IntKind.signed]
theorem goodM_ok (m : Mg) : (goodM m).ok := by
  refine ⟨kind_ok _, ?_, ?_, ?_, ?_, ?_⟩
  · show refuse 6 ((m.terms.take 64).length : Nat) = 0; rw [List.length_take]; exact len_ok6 (by omega)
  · show refuse 6 (((m.es.take 64).map goodE).length : Nat) = 0; rw [List.length_map, List.length_take]; exact len_ok6 (by omega)
  · show refuse 5 ((m.old.take 9).length : Nat) = 0; rw [List.length_take]; exact len_ok5 (by omega)
  · show refuse 5 ((m.new.take 9).length : Nat) = 0; rw [List.length_take]; exact len_ok5 (by omega)
  · intro e hx
    obtain ⟨e', _, rfl⟩ := List.mem_map.1 hx
    exact goodE_ok e'
theorem ok_few {m : Mg} (h : m.ok) : m.few := by
  have h1 := (refuse_range h.terms).2
  have h2 := (refuse_range h.es).2
  have h3 := (refuse_range h.old).2
  have h4 := (refuse_range h.new).2
  refine ⟨by omega, by omega, by omega, by omega, fun i hi => ?_⟩
  have he : m.es.getD i default ∈ m.es := by rw [List.getD_eq_getElem?_getD, List.getElem?_eq_getElem hi]; exact List.getElem_mem hi
  have k := h.eachE _ he
  have k1 := (refuse_range k.text).2
  have k2 := (refuse_range k.ms).2
  omega
theorem rdM_few {bs : List Nat} (hb : ∀ x ∈ bs, x < 256) : (rdM bs).few := by
  unfold rdM
  split
  · next h => exact ok_few (msg_taken hb h).1
  · exact ⟨by decide, by decide, by decide, by decide, fun i hi => by simp [zeroM] at hi⟩
theorem Given.take {w : World} {ao : Option Addr} {n m : Nat} {bs : List Nat} (h : Given w ao n m bs) (k : Nat) (hk : k ≤ n) : Given w ao k m (bs.take k) :=
  ⟨by rw [List.length_take, h.len]; omega, Nat.le_trans hk h.room, h.nul, Nat.le_trans hk h.big, h.are.take k⟩
theorem own_given {base : Nat} {w : World} {ao : Option Addr} {n cap : Nat} {bs : List Nat} (h : Own base w (.slice ao n cap) bs) (hn : bs.length = n) (hl : n ≤ 1000000) : Given w ao n cap bs := by
  obtain ⟨ao', cap', e, h1, h2, h3, h4, h5⟩ := h.slice
  rw [hn] at e h1
  simp only [Value.slice.injEq] at e
  obtain ⟨rfl, -, rfl⟩ := e
  exact ⟨hn, h1, h4, by omega, h3⟩
/-- a box with a message. -/
structure MBx (Y : World) (P : Nat) (X : Mg) (aot aoe aoo aon : Option Addr) (ct ce co cn : Nat) : Prop where
  box : Y.heap[P]? = some (.cells #[.int .i64 X.src, .int .i64 X.to, .int .i64 X.gen, .int .i64 X.kind, .int .i64 X.term, .int .i64 X.index, .int .i64 X.last, .int .i64 X.commit, .bool X.yes, .slice aot X.terms.length ct, .slice aoe X.es.length ce, .slice aoo X.old.length co, .slice aon X.new.length cn] 41 (0, 0))
  t : IntsR Y aot X.terms
  e : EntsAt Y aoe X.es
  o : IntsR Y aoo X.old
  n : IntsR Y aon X.new
theorem MBx.below {Y Z : World} {P : Nat} {X : Mg} {aot aoe aoo aon : Option Addr} {ct ce co cn : Nat} (h : MBx Y P X aot aoe aoo aon ct ce co cn) (hb : Below Y.heap.size Y Z) : MBx Z P X aot aoe aoo aon ct ce co cn :=
  ⟨(hb.block _ (blk_lt' h.box)).trans h.box, h.t.below hb, h.e.below hb, h.o.below hb, h.n.below hb⟩
/-- a box with an entry. -/
structure EBx (Y : World) (P : Nat) (x : Ent) (ao : Option Addr) (cap : Nat) : Prop where
  box : Y.heap[P]? = some (.cells #[.int .i64 x.kind, .int .i64 x.client, .int .i64 x.seq, .string (str x.data), .slice ao x.members.length cap, .int .i64 x.to'] 24 (0, 0))
  m : IntsR Y ao x.members
theorem EBx.below {Y Z : World} {P : Nat} {x : Ent} {ao : Option Addr} {cap : Nat} (h : EBx Y P x ao cap) (hb : Below Y.heap.size Y Z) : EBx Z P x ao cap :=
  ⟨(hb.block _ (blk_lt' h.box)).trans h.box, h.m.below hb⟩
/-- a box with a configuration. -/
structure CBx (Y : World) (P : Nat) (x : List Int × List Int) (ao an : Option Addr) (co cn : Nat) : Prop where
  box : Y.heap[P]? = some (.cells #[.slice ao x.1.length co, .slice an x.2.length cn] 39 (0, 0))
  o : IntsR Y ao x.1
  n : IntsR Y an x.2
theorem CBx.below {Y Z : World} {P : Nat} {x : List Int × List Int} {ao an : Option Addr} {co cn : Nat} (h : CBx Y P x ao an co cn) (hb : Below Y.heap.size Y Z) : CBx Z P x ao an co cn :=
  ⟨(hb.block _ (blk_lt' h.box)).trans h.box, h.o.below hb, h.n.below hb⟩
theorem IntsR.ints {w w1 : World} {ao : Option Addr} {b : Nat} {ys : List Int} {ts : List TypeId} (h : IntsR w ao ys) (hb : w.heap.size ≤ b) (hw : Below w.heap.size w w1) : Ints b ts w1 ao ys := fun i hi => by
  obtain ⟨a, ea, hc⟩ := h i hi
  have hlt := blk_lt hc
  exact ⟨a, ea, by rw [hw.cell hlt]; exact hc, Or.inl (by rw [add_block] at hlt; omega)⟩
section
variable {Y : World} {P Q : Nat} {aot aoe aoo aon dt de d_o dn : Option Addr} {ct ce co cn dct dce dco dcn : Nat}
theorem mbx_enc {X : Mg} (h : MBx Y P X aot aoe aoo aon ct ce co cn) (hf : X.few) (hS : Start Y) {bs : List Nat} (hp : X.put ([], 0) = (bs, 0)) :
    Calls Tryd.prog 16 #[.agg #[.int .i64 X.src, .int .i64 X.to, .int .i64 X.gen, .int .i64 X.kind, .int .i64 X.term, .int .i64 X.index, .int .i64 X.last, .int .i64 X.commit, .bool X.yes, .slice aot X.terms.length ct, .slice aoe X.es.length ce, .slice aoo X.old.length co, .slice aon X.new.length cn]] Y fun e w' => ∃ v, e = .returned (.tuple #[v, .int .i64 0]) ∧ Own Y.heap.size w' v bs ∧ Below Y.heap.size Y w' := by
  refine (encodeMsg_any X.src X.to X.gen X.kind X.term X.index X.last X.commit X.yes aot X.terms.length ct X.terms rfl aoe X.es.length ce X.es rfl (by have := hf.e; omega) aoo aon X.old.length X.new.length co cn X.old X.new rfl rfl Y
    (fun _ _ _ hb h1 => h.t.ints hb h1) (fun _ _ _ hb h1 => h.e.ents hb h1) (fun _ _ _ hb h1 => h.o.ints hb h1) (fun _ _ _ hb h1 => h.n.ints hb h1) hS).mono ?_
  rintro e w' ⟨v, rfl, h1, h2⟩
  have hp' : putMsg X.src X.to X.gen X.kind X.term X.index X.last X.commit X.yes X.terms X.es X.old X.new ([], 0) = (bs, 0) := hp
  rw [hp'] at h1 ⊢
  exact ⟨v, rfl, h1, h2⟩
theorem mbx_same {X : Mg} (h : MBx Y P X aot aoe aoo aon ct ce co cn) (k : MBx Y Q X dt de d_o dn dct dce dco dcn) (hf : X.few) :
    Calls Tryd.prog 21 #[.agg #[.int .i64 X.src, .int .i64 X.to, .int .i64 X.gen, .int .i64 X.kind, .int .i64 X.term, .int .i64 X.index, .int .i64 X.last, .int .i64 X.commit, .bool X.yes, .slice aot X.terms.length ct, .slice aoe X.es.length ce, .slice aoo X.old.length co, .slice aon X.new.length cn], .agg #[.int .i64 X.src, .int .i64 X.to, .int .i64 X.gen, .int .i64 X.kind, .int .i64 X.term, .int .i64 X.index, .int .i64 X.last, .int .i64 X.commit, .bool X.yes, .slice dt X.terms.length dct, .slice de X.es.length dce, .slice d_o X.old.length dco, .slice dn X.new.length dcn]] Y fun e w' => e = .returned (.bool true) ∧ Below Y.heap.size Y w' := by
  have := rsm_any (act := ct) (ace := ce) (aco := co) (acn := cn) (dct := dct) (dce := dce) (dco := dco) (dcn := dcn) hf h.t k.t h.e k.e h.o k.o h.n k.n
  rw [sameM_self] at this
  exact this
theorem ebx_same {x : Ent} {a b : Option Addr} {ca cb : Nat} (h : EBx Y P x a ca) (k : EBx Y Q x b cb) (hl : x.members.length ≤ 64) :
    Calls Tryd.prog 12 #[.agg #[.int .i64 x.kind, .int .i64 x.client, .int .i64 x.seq, .string (str x.data), .slice a x.members.length ca, .int .i64 x.to'], .agg #[.int .i64 x.kind, .int .i64 x.client, .int .i64 x.seq, .string (str x.data), .slice b x.members.length cb, .int .i64 x.to']] Y fun e w' => e = .returned (.bool true) ∧ Below Y.heap.size Y w' := by
  have := rsameEntry_any x.kind x.client x.seq x.to' x.kind x.client x.seq x.to' (str x.data) (str x.data) a b _ _ ca cb x.members x.members rfl rfl (by omega) Y h.m k.m
  rw [decide_eq_true (by simp)] at this
  exact this
theorem ints_same {a b : Option Addr} {ca cb : Nat} {xs : List Int} (h : IntsR Y a xs) (k : IntsR Y b xs) (hl : xs.length ≤ 64) :
    Calls Tryd.prog 29 #[.slice a xs.length ca, .slice b xs.length cb] Y fun e w' => e = .returned (.bool true) ∧ Below Y.heap.size Y w' := by
  have := sameInts_any a b _ _ ca cb xs xs rfl rfl (by omega) Y h k
  rw [decide_eq_true rfl] at this
  exact this
end
end Go.Proofs.YtojmnlbdhpledaaDoor
namespace Go.Proofs.YtojmnlbdhpledaaDoor
open Go.ChangeShapes Go.WideShapes Go.ChangeAt Go.RowKit

set_option maxRecDepth 100000 in
theorem ints_open {H : Type} {enc : TypeId × Value → H} {W : World} {base : Nat} {v : Value} {d : DataW H} {p : List MemPlace} (hv : Value.okWide Tryd.prog W .any base 22 v)
    (h : DataW.Trod enc Tryd.prog W 0 (fun _ => true) true 22 v d p) : ∃ ao n cap xs, v = .slice ao n cap ∧ xs.length = n ∧ Nums W ao xs := by
  obtain ⟨a0, len, cap, rfl⟩ := okWide_slice Tryd.underlying22 hv
  obtain ⟨fuel, hf⟩ := h
  obtain ⟨ao, n, cap', ys, e, hy, h64⟩ := ints_trod' hf
  simp [Value.cells] at e
  obtain ⟨rfl, rfl, rfl⟩ := e
  refine ⟨_, _, _, ys, rfl, hy.len, fun i hi => ?_⟩
  obtain ⟨a, ea, hc⟩ := hy.are i hi
  have hm : ys.getD i 0 ∈ ys := by rw [List.getD_eq_getElem?_getD, List.getElem?_eq_getElem hi]; exact List.getElem_mem hi
  have := h64 _ hm
  unfold In64 at this
  exact ⟨a, ea, hc, this.1, by omega⟩
end Go.Proofs.YtojmnlbdhpledaaDoor
