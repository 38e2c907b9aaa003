/- WireEntries: small things that its walk calls: few, exactly; an argument that is an entry, with its numbers' range; what was read of what was written. -/
import Derived.Test.YthjpdglbliigcaaDoorREnc
import Derived.Test.YthjpdglbliigcaaDoorSameE
import Derived.Test.YthjpdglbliigcaaDoorCutsG
import Derived.Test.YthjpdglbliigcaaDoorReaderQ
namespace Go.Proofs.YthjpdglbliigcaaDoor
open Go.ChangeShapes Go.WideShapes Go.ChangeAt Go.RowKit

set_option maxRecDepth 20000 in
set_option maxHeartbeats 1000000 in
theorem few_is (k c q to' : Int) (t : ByteArray) (ao : Option Addr) (n cap : Nat) (hn : n ≤ maxLen) (ht : t.size ≤ maxLen) (w : World) :
    Calls Tryd.prog 8 #[.agg #[.int .i64 k, .int .i64 c, .int .i64 q, .string t, .slice ao n cap, .int .i64 to']] w fun e w' => e = .returned (.bool (decide (t.size < 300 ∧ n < 100))) ∧ Below w.heap.size w w' := by
  have hb : ∀ o, Below w.heap.size w (w.alloc o) := fun o => (Below.refl _ w).alloc (Nat.le_refl _) o
  have hn' : n ≤ 9223372036854775807 := hn
  have ht' : t.size ≤ 9223372036854775807 := ht
  have HB := hide hb
  clear hn ht hb
  by_cases h1 : t.size < 300
  · by_cases h2 : n < 100
    · rw [decide_eq_true ⟨h1, h2⟩]
      go_enter Tryd.func8, Tryd.ntmps8
      go_wp2
      go_ret
      exact ⟨by simp; omega, unhide HB _⟩
    · rw [decide_eq_false (fun h => h2 h.2)]
      go_enter Tryd.func8, Tryd.ntmps8
      go_wp2
      go_ret
      exact ⟨by simp; omega, unhide HB _⟩
  · rw [decide_eq_false (fun h => h1 h.1)]
    go_enter Tryd.func8, Tryd.ntmps8
    go_wp2
    go_ret
    exact ⟨rfl, unhide HB _⟩

/-- a number of 64 bits. -/
def In64 (n : Int) : Prop := -9223372036854775808 ≤ n ∧ n < 9223372036854775808
theorem i64_in {n : Int} (h : (Lit.int .i64 n).wf = true) : In64 n := by
  simp [Lit.wf, IntKind.min, IntKind.max, IntKind.bits, IntKind.signed] at h
  unfold In64; omega
/-- an entry's numbers are of 64 bits. -/
structure En.in64 (e : En) : Prop where
  kind : In64 e.kind
  client : In64 e.client
  seq : In64 e.seq
  ms : ∀ y ∈ e.ms, In64 y
  «to» : In64 e.«to»
section
variable {H : Type} {enc : TypeId × Value → H} {W : World} {fuel : Nat} {cs : List Value} {x : DataW H × List MemPlace}
theorem ints_trod' (h : DataW.trod enc Tryd.prog W 0 (fun _ => true) true fuel 22 cs = some x) : ∃ ao n cap ys, cs = [.slice ao n cap] ∧ IntsAt W ao n cap ys ∧ ∀ y ∈ ys, In64 y := by
  rcases open_ints Tryd.underlying22 Tryd.underlying3 Tryd.cells3 h with ⟨hcs, _⟩ | ⟨a, len, cap, zs, hcs, _, hl, hm, hz, _, hcell, hwz⟩
  · exact ⟨none, 0, 0, [], hcs, ⟨rfl, Nat.le_refl _, by decide, fun _ => rfl, fun j hj => by simp at hj⟩, by simp⟩
  · simp only [if_true] at hz
    have hlen : (zs.take len).length = len := by simp; omega
    refine ⟨some a, len, cap, zs.take len, hcs, ⟨hlen, hl, hm, (fun h => by cases h), fun j hj => ⟨a, rfl, ?_⟩⟩, fun y hy => i64_in (hwz y (List.mem_of_mem_take hy))⟩
    rw [hlen] at hj
    have hg : (zs.take len).getD j 0 = zs.getD j 0 := by simp [List.getD_eq_getElem?_getD, List.getElem?_take_of_lt hj]
    rw [hg]
    exact hcell j (by omega)
set_option maxRecDepth 100000 in
theorem entry_trod' (h : DataW.trod enc Tryd.prog W 0 (fun _ => true) true fuel 24 cs = some x) :
    ∃ (e : En) (ao : Option Addr) (cap : Nat), cs = [.int .i64 e.kind, .int .i64 e.client, .int .i64 e.seq, .string e.text, .slice ao e.ms.length cap, .int .i64 e.«to»] ∧ IntsAt W ao e.ms.length cap e.ms ∧ e.text.size ≤ maxLen ∧ e.in64 := by
  obtain ⟨xs, n, _, _, hl, hlen, hf⟩ := DataW.trod_struct Tryd.underlying24 h
  rw [Tryd.cellsE] at hl
  match cs, hl, xs, hlen with
  | [c0, c1, c2, c3, c4, c5], _, [y0, y1, y2, y3, y4, y5], _ =>
    have f0 := hf 0 _ rfl
    have f1 := hf 1 _ rfl
    have f2 := hf 2 _ rfl
    have f3 := hf 3 _ rfl
    have f4 := hf 4 _ rfl
    have f5 := hf 5 _ rfl
    simp [Tryd.cells3, Tryd.cells9, Tryd.cellsI] at f0 f1 f2 f3 f4 f5
    obtain ⟨k, e0, _, w0⟩ := DataW.trod_int Tryd.underlying3 f0
    obtain ⟨c, e1, _, w1⟩ := DataW.trod_int Tryd.underlying3 f1
    obtain ⟨q, e2, _, w2⟩ := DataW.trod_int Tryd.underlying3 f2
    obtain ⟨t, e3, _, ht⟩ := DataW.trod_string Tryd.underlying9 f3
    obtain ⟨ao, m, cap, ys, e4, hy, hr⟩ := ints_trod' f4
    obtain ⟨z, e5, _, w5⟩ := DataW.trod_int Tryd.underlying3 f5
    simp only [List.cons.injEq, and_true] at e0 e1 e2 e3 e4 e5
    obtain rfl := hy.len
    exact ⟨⟨k, c, q, t, ys, z⟩, ao, cap, by rw [e0, e1, e2, e3, e4, e5], hy, ht, ⟨i64_in w0, i64_in w1, i64_in w2, hr, i64_in w5⟩⟩
end
set_option maxRecDepth 100000 in
theorem entry_open' {H : Type} {enc : TypeId × Value → H} {W : World} {base : Nat} {v : Value} {d : DataW H} {p : List MemPlace} (hv : Value.okWide Tryd.prog W .any base 24 v)
    (h : DataW.Trod enc Tryd.prog W 0 (fun _ => true) true 24 v d p) : ∃ (e : En) (ao : Option Addr) (cap : Nat), v = .agg #[.int .i64 e.kind, .int .i64 e.client, .int .i64 e.seq, .string e.text, .slice ao e.ms.length cap, .int .i64 e.«to»] ∧ IntsAt W ao e.ms.length cap e.ms ∧ e.text.size ≤ maxLen ∧ e.in64 := by
  obtain ⟨cs, rfl, _⟩ := okWide_struct Tryd.underlying24 hv
  obtain ⟨fuel, hf⟩ := h
  obtain ⟨e, ao, cap, hc, hy, ht, hr⟩ := entry_trod' hf
  refine ⟨e, ao, cap, ?_, hy, ht, hr⟩
  simp only [Value.cells] at hc
  rw [← hc]

/-! ### what is read of what was written -/
theorem map_fix {ys : List Int} (h : ∀ y ∈ ys, In64 y) : ys.map fix = ys := by
  induction ys with
  | nil => rfl
  | cons y ys ih =>
    rw [List.map_cons, ih (fun z hz => h z (List.mem_cons_of_mem _ hz)), fix_self (h y (by simp)).1 (h y (by simp)).2]
theorem ent_self {e : En} (h : e.in64) : e.ent = ⟨e.kind, e.client, e.seq, bytesOf e.text, e.ms, e.«to»⟩ := by
  unfold En.ent
  rw [map_fix h.ms, fix_self h.client.1 h.client.2, fix_self h.seq.1 h.seq.2]
end Go.Proofs.YthjpdglbliigcaaDoor
