/- A law's votes and calls, as they come in. -/
import Derived.Test.YtijohafalcifpaaVBase
namespace Go.Proofs.Ytijohafalcifpaa
open Go.RowKit Go.Maps

def zeroEn : En := ⟨0, 0, 0, ⟨#[]⟩, [], 0⟩
/-- a slice of votes, however long their members. -/
def VsA (w : World) (ao : Option Addr) (vs : List Vt) : Prop :=
  ∀ (i : Nat) (v : Vt), vs[i]? = some v → ∃ g off mo mc, ao = some ⟨g, off, none⟩ ∧ (∀ (j : Nat) (u : Value), (v.cells (.slice mo v.e.ms.length mc))[j]? = some u → w.cell? ⟨g, off + i * 8 + j, none⟩ = some u) ∧ IntsR w mo v.e.ms ∧ v.e.ms.length ≤ maxLen
theorem VsA.vsR {w : World} {ao : Option Addr} {vs : List Vt} (h : VsA w ao vs) (base : Nat) (hf : ∀ (i : Nat) (v : Vt), vs[i]? = some v → v.e.ms.length ≤ 1000000) : VsR w.heap.size base w ao vs := fun i v hi => by
  obtain ⟨g, off, mo, mc, h1, h2, h3, _⟩ := h i v hi
  exact ⟨g, off, mo, mc, h1, h2, Or.inr h3.inF, hf i v hi⟩
theorem VsA.at {w : World} {ao : Option Addr} {vs : List Vt} (h : VsA w ao vs) {k : Nat} {v : Vt} (he : vs[k]? = some v) :
    ∃ g off mo mc, ao = some ⟨g, off, none⟩ ∧ w.cell? ⟨g, off + k * 8, none⟩ = some (.int .i64 v.slot) ∧ w.cell? ⟨g, off + k * 8 + 1, none⟩ = some (.int .i64 v.ballot) ∧ w.cell? ⟨g, off + k * 8 + 2, none⟩ = some (.int .i64 v.e.kind) ∧ w.cell? ⟨g, off + k * 8 + 3, none⟩ = some (.int .i64 v.e.client) ∧ w.cell? ⟨g, off + k * 8 + 4, none⟩ = some (.int .i64 v.e.seq) ∧ w.cell? ⟨g, off + k * 8 + 5, none⟩ = some (.string v.e.text) ∧ w.cell? ⟨g, off + k * 8 + 6, none⟩ = some (.slice mo v.e.ms.length mc) ∧ w.cell? ⟨g, off + k * 8 + 7, none⟩ = some (.int .i64 v.e.dest) ∧ IntsR w mo v.e.ms := by
  obtain ⟨g, off, mo, cap, h1, h3, h4, _⟩ := h k v he
  obtain ⟨k0, k1, k2, k3, k4, k5, k6, k7⟩ := Vt.eight h3
  exact ⟨g, off, mo, cap, h1, k0, k1, k2, k3, k4, k5, k6, k7, h4⟩
/-- a call: Accept or Prepare. -/
structure Cl where
  acc : Bool
  ballot : Int
  slot : Int
  e : En
def Cl.cells (c : Cl) (mv : Value) : List Value := .bool c.acc :: .int .i64 c.ballot :: .int .i64 c.slot :: c.e.cells mv
def ClsA (w : World) (ao : Option Addr) (cs : List Cl) : Prop :=
  ∀ (i : Nat) (c : Cl), cs[i]? = some c → ∃ g off mo mc, ao = some ⟨g, off, none⟩ ∧ (∀ (j : Nat) (u : Value), (c.cells (.slice mo c.e.ms.length mc))[j]? = some u → w.cell? ⟨g, off + i * 9 + j, none⟩ = some u) ∧ IntsR w mo c.e.ms ∧ c.e.ms.length ≤ maxLen
theorem ClsA.at {w : World} {ao : Option Addr} {cs : List Cl} (h : ClsA w ao cs) {k : Nat} {c : Cl} (he : cs[k]? = some c) :
    ∃ g off mo mc, ao = some ⟨g, off, none⟩ ∧ w.cell? ⟨g, off + k * 9, none⟩ = some (.bool c.acc) ∧ w.cell? ⟨g, off + k * 9 + 1, none⟩ = some (.int .i64 c.ballot) ∧ w.cell? ⟨g, off + k * 9 + 2, none⟩ = some (.int .i64 c.slot) ∧ w.cell? ⟨g, off + k * 9 + 3, none⟩ = some (.int .i64 c.e.kind) ∧ w.cell? ⟨g, off + k * 9 + 4, none⟩ = some (.int .i64 c.e.client) ∧ w.cell? ⟨g, off + k * 9 + 5, none⟩ = some (.int .i64 c.e.seq) ∧ w.cell? ⟨g, off + k * 9 + 6, none⟩ = some (.string c.e.text) ∧ w.cell? ⟨g, off + k * 9 + 7, none⟩ = some (.slice mo c.e.ms.length mc) ∧ w.cell? ⟨g, off + k * 9 + 8, none⟩ = some (.int .i64 c.e.dest) ∧ IntsR w mo c.e.ms := by
  obtain ⟨g, off, mo, cap, h1, h3, h4, _⟩ := h k c he
  exact ⟨g, off, mo, cap, h1, h3 0 _ rfl, h3 1 _ rfl, h3 2 _ rfl, h3 3 _ rfl, h3 4 _ rfl, h3 5 _ rfl, h3 6 _ rfl, h3 7 _ rfl, h3 8 _ rfl, h4⟩
end Go.Proofs.Ytijohafalcifpaa
