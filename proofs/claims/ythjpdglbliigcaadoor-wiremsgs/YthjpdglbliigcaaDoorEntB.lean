/- WireEntries: what its walk calls, whole. -/
import Derived.Test.YthjpdglbliigcaaDoorEntA
import Derived.Test.YthjpdglbliigcaaDoorReadPut
namespace Go.Proofs.YthjpdglbliigcaaDoor
open Go.RowKit

theorem str_self (t : ByteArray) : str (bytesOf t) = t := by
  unfold str bytesOf strOfNums
  apply ByteArray.ext
  apply Array.ext'
  simp [List.map_map, Function.comp_def]
theorem put_zero {e : En} (h : (putEntry e.kind e.client e.seq e.text e.ms e.«to» ([], 0)).2 = 0) : e.ok := by
  rw [wrong_put] at h
  have hok : 0 ≤ e.kind ∧ e.kind ≤ 4 ∧ e.text.size ≤ 16 ∧ e.ms.length ≤ 9 ∧ 0 ≤ e.«to» ∧ e.«to» ≤ 2 := by
    by_cases hh : 0 ≤ e.kind ∧ e.kind ≤ 4 ∧ e.text.size ≤ 16 ∧ e.ms.length ≤ 9 ∧ 0 ≤ e.«to» ∧ e.«to» ≤ 2
    · exact hh
    · exact absurd h (wrong_ne hh)
  obtain ⟨k1, k2, k3, k4, k5, k6⟩ := hok
  refine ⟨?_, ?_, ?_, ?_⟩
  · unfold refuse; rw [if_neg (by show ¬ (e.kind < (0 : Int) ∨ (4 : Int) < e.kind); omega)]
  · unfold refuse; rw [if_neg (by show ¬ ((e.text.size : Int) < (0 : Int) ∨ (16 : Int) < (e.text.size : Int)); omega)]
  · unfold refuse; rw [if_neg (by show ¬ ((e.ms.length : Int) < (0 : Int) ∨ (9 : Int) < (e.ms.length : Int)); omega)]
  · unfold refuse; rw [if_neg (by show ¬ (e.«to» < (0 : Int) ∨ (2 : Int) < e.«to»); omega)]

theorem row_ints {w : World} {base : Nat} {v : Value} {ys : List Int} (h : w.ownsRow base 3 1 v ys.length (i64s ys)) : ∃ ao cap, v = .slice ao ys.length cap ∧ IntsR w ao ys := by
  rcases h.2 with ⟨rfl, h0⟩ | ⟨g, cap, cur, rfl, _⟩
  · exact ⟨none, 0, by rw [h0], fun i hi => by omega⟩
  · refine ⟨some ⟨g, 0, none⟩, cap, rfl, fun i hi => ⟨_, rfl, ?_⟩⟩
    refine h.cells rfl i _ ?_
    simp only [i64s, List.getElem?_map, List.getD_eq_getElem?_getD, List.getElem?_eq_getElem hi, Option.map_some, Option.getD_some]

/-- ParseEntry of what EncodeEntry wrote. -/
theorem parse_self {e : En} (hok : e.ok) (h64 : e.in64) {w : World} {ao : Option Addr} {n cap : Nat} (hg : Given w ao n cap e.bytes) (hS : Start w) :
    Calls Tryd.prog 13 #[.slice ao n cap] w fun r w' => ∃ ax cx, r = .returned (.tuple #[.agg #[.int .i64 e.kind, .int .i64 e.client, .int .i64 e.seq, .string e.text, .slice ax e.ms.length cx, .int .i64 e.«to»], .int .i64 0]) ∧ IntsR w' ax e.ms ∧ Below w.heap.size w w' := by
  obtain ⟨h1, h2⟩ := whole_told (entryR_reads hok)
  have h1' : rentry e.bytes (0, 0) = (e.ent, (e.bytes.length, 0)) := h1
  have h2' : (rend n (rentry e.bytes (0, 0)).2).2 = 0 := by rw [← hg.len]; exact h2
  refine (parseEntry_any ao n cap e.bytes w hg hS).mono ?_
  rintro r w' ⟨cs, rfl, hb, hc, _⟩
  rw [h2'] at hc ⊢
  obtain ⟨v, rfl, hrow⟩ := hc rfl
  rw [h1', ent_self h64] at hrow ⊢
  obtain ⟨ax, cx, rfl, hi⟩ := row_ints (ys := e.ms) hrow
  refine ⟨ax, cx, ?_, hi, hb⟩
  simp only [Ent.cells, str_self]
  rfl
end Go.Proofs.YthjpdglbliigcaaDoor
