/- wire's reader: msg: a contract. -/
import Derived.Test.YthjpdglbliigcaaDoorReaderI
namespace Go.Proofs.YthjpdglbliigcaaDoor
open Go.RowKit

/-- a message, plainly. -/
structure Mes where
  src : Int
  to' : Int
  gen : Int
  kind : Int
  term : Int
  index : Int
  last : Int
  commit : Int
  yes : Bool
  terms : List Int
  ents : List Ent
  cold : List Int
  cnew : List Int
/-- what msg answers, and does. -/
def rmsg (bs : List Nat) (s : Nat × Nat) : Mes × (Nat × Nat) :=
  let a1 := rtake bs.length 8 s
  let a2 := rtake bs.length 8 a1
  let a3 := rtake bs.length 8 a2
  let k := rrule bs 2 a3
  let a5 := rtake bs.length 8 k.2
  let a6 := rtake bs.length 8 a5
  let a7 := rtake bs.length 8 a6
  let a8 := rtake bs.length 8 a7
  let y := rrule bs 3 a8
  let l := rlist bs 6 y.2
  let e := rentries bs l.2
  let c := rconfig bs e.2
  (⟨rint bs s, rint bs a1, rint bs a2, k.1, rint bs k.2, rint bs a5, rint bs a6, rint bs a7, ((y.1 : Nat) : Int) == 1, l.1, e.1, c.1.1, c.1.2⟩, c.2)
/-- the cells of a message. -/
def Mes.cells (x : Mes) (v e o n : Value) : Array Value := #[.int .i64 x.src, .int .i64 x.to', .int .i64 x.gen, .int .i64 x.kind, .int .i64 x.term, .int .i64 x.index, .int .i64 x.last, .int .i64 x.commit, .bool x.yes, v, e, o, n]
/-- the lists of a message. -/
def Mes.rows (base : Nat) (w : World) (x : Mes) (v e o n : Value) (vs : List Value) : Prop :=
  w.ownsRow base 3 1 v x.terms.length (i64s x.terms) ∧ w.ownsRow base 24 6 e x.ents.length (ecells x.ents vs) ∧ Mems base w x.ents vs ∧ w.ownsRow base 3 1 o x.cold.length (i64s x.cold) ∧ w.ownsRow base 3 1 n x.cnew.length (i64s x.cnew)

set_option maxRecDepth 20000 in
set_option maxHeartbeats 4000000 in
theorem rg_msg {base : Nat} {wz w : World} {p : Nat} {ao : Option Addr} {n cap : Nat} {bs : List Nat} {s : Nat × Nat} (h : Rg base wz w p ao n cap bs s) :
    Calls Tryd.prog 48 #[.pointer (some ⟨p, 0, none⟩)] w fun e w' => ∃ v1 v2 v3 v4 vs, e = .returned (.agg ((rmsg bs s).1.cells v1 v2 v3 v4)) ∧ (rmsg bs s).1.rows w.heap.size w' v1 v2 v3 v4 vs ∧ Rg base wz w' p ao n cap bs (rmsg bs s).2 ∧ Only base [113] w w' := by
  have E1 : Hid (rmsg bs s = (⟨rint bs (s), rint bs (rtake n 8 (s)), rint bs (rtake n 8 (rtake n 8 (s))), (rrule bs 2 (rtake n 8 (rtake n 8 (rtake n 8 (s))))).1, rint bs ((rrule bs 2 (rtake n 8 (rtake n 8 (rtake n 8 (s))))).2), rint bs (rtake n 8 ((rrule bs 2 (rtake n 8 (rtake n 8 (rtake n 8 (s))))).2)), rint bs (rtake n 8 (rtake n 8 ((rrule bs 2 (rtake n 8 (rtake n 8 (rtake n 8 (s))))).2))), rint bs (rtake n 8 (rtake n 8 (rtake n 8 ((rrule bs 2 (rtake n 8 (rtake n 8 (rtake n 8 (s))))).2)))), (((rrule bs 3 (rtake n 8 (rtake n 8 (rtake n 8 (rtake n 8 ((rrule bs 2 (rtake n 8 (rtake n 8 (rtake n 8 (s))))).2)))))).1 : Nat) : Int) == 1, (rlist bs 6 ((rrule bs 3 (rtake n 8 (rtake n 8 (rtake n 8 (rtake n 8 ((rrule bs 2 (rtake n 8 (rtake n 8 (rtake n 8 (s))))).2)))))).2)).1, (rentries bs ((rlist bs 6 ((rrule bs 3 (rtake n 8 (rtake n 8 (rtake n 8 (rtake n 8 ((rrule bs 2 (rtake n 8 (rtake n 8 (rtake n 8 (s))))).2)))))).2)).2)).1, (rconfig bs ((rentries bs ((rlist bs 6 ((rrule bs 3 (rtake n 8 (rtake n 8 (rtake n 8 (rtake n 8 ((rrule bs 2 (rtake n 8 (rtake n 8 (rtake n 8 (s))))).2)))))).2)).2)).2)).1.1, (rconfig bs ((rentries bs ((rlist bs 6 ((rrule bs 3 (rtake n 8 (rtake n 8 (rtake n 8 (rtake n 8 ((rrule bs 2 (rtake n 8 (rtake n 8 (rtake n 8 (s))))).2)))))).2)).2)).2)).1.2⟩, (rconfig bs ((rentries bs ((rlist bs 6 ((rrule bs 3 (rtake n 8 (rtake n 8 (rtake n 8 (rtake n 8 ((rrule bs 2 (rtake n 8 (rtake n 8 (rtake n 8 (s))))).2)))))).2)).2)).2)).2)) := by show _ = _; unfold rmsg; rw [h.2.1.len]
  obtain ⟨g0, hg0⟩ : ∃ g0 : World, g0 = w.alloc (.cells #[.int .i64 0, .int .i64 0, .int .i64 0, .int .i64 0, .int .i64 0, .int .i64 0, .int .i64 0, .int .i64 0, .bool false, .slice none 0 0, .slice none 0 0, .slice none 0 0, .slice none 0 0] 41) := ⟨_, rfl⟩
  have hbase := h.2.2.1
  have H0 := hide h
  have R0 : Hid (Rg base w g0 p ao n cap bs s) := by subst hg0; exact (Rg.start h.1 h.2.1 h.2.2.1).alloc _
  have HB0 : Hid (g0.heap[w.heap.size]? = some (.cells #[.int .i64 0, .int .i64 0, .int .i64 0, .int .i64 0, .int .i64 0, .int .i64 0, .int .i64 0, .int .i64 0, .bool false, .slice none 0 0, .slice none 0 0, .slice none 0 0, .slice none 0 0] 41 (0, 0))) := by subst hg0; exact heap_alloc_new _ _
  have HE := hide hg0
  have z0 : w.heap.size ≤ g0.heap.size := by subst hg0; simp
  clear h hg0
  go_enter Tryd.func48, Tryd.ntmps48
  go_wp2_with fail
  rw [← unhide HE]
  clear HE
  refine (rg_int (unhide R0)).mono ?_
  rintro e w1 ⟨rfl, r, k⟩
  have R1 := hide r
  have HB1 := hide (k.block (unhide HB0) (by decide))
  have z1 : w.heap.size ≤ w1.heap.size := Nat.le_trans z0 k.size
  clear r k R0 HB0
  generalize rtake n 8 s = s1 at *
  generalize rint bs s = f0 at *
  go_wp2_with fail
  refine (rg_int (unhide R1)).mono ?_
  rintro e w2 ⟨rfl, r, k⟩
  have R2 := hide r
  have HB2 := hide (k.block (unhide HB1) (by decide))
  have z2 : w.heap.size ≤ w2.heap.size := Nat.le_trans z1 k.size
  clear r k R1 HB1
  generalize rtake n 8 s1 = s2 at *
  generalize rint bs s1 = f1 at *
  go_wp2_with fail
  refine (rg_int (unhide R2)).mono ?_
  rintro e w3 ⟨rfl, r, k⟩
  have R3 := hide r
  have HB3 := hide (k.block (unhide HB2) (by decide))
  have z3 : w.heap.size ≤ w3.heap.size := Nat.le_trans z2 k.size
  clear r k R2 HB2
  generalize rtake n 8 s2 = s3 at *
  generalize rint bs s2 = f2 at *
  go_wp2_with fail
  refine (rg_rule 2 (by decide) (unhide R3)).mono ?_
  rintro e w4 ⟨rfl, r, k⟩
  have R4 := hide r
  have HB4 := hide (k.block (unhide HB3) (by decide))
  have z4 : w.heap.size ≤ w4.heap.size := Nat.le_trans z3 k.size
  clear r k R3 HB3
  generalize rrule bs 2 s3 = g3 at *
  obtain ⟨f3, s4⟩ := g3
  go_wp2_with fail
  refine (rg_int (unhide R4)).mono ?_
  rintro e w5 ⟨rfl, r, k⟩
  have R5 := hide r
  have HB5 := hide (k.block (unhide HB4) (by decide))
  have z5 : w.heap.size ≤ w5.heap.size := Nat.le_trans z4 k.size
  clear r k R4 HB4
  generalize rtake n 8 (f3, s4).2 = s5 at *
  generalize rint bs (f3, s4).2 = f4 at *
  go_wp2_with fail
  refine (rg_int (unhide R5)).mono ?_
  rintro e w6 ⟨rfl, r, k⟩
  have R6 := hide r
  have HB6 := hide (k.block (unhide HB5) (by decide))
  have z6 : w.heap.size ≤ w6.heap.size := Nat.le_trans z5 k.size
  clear r k R5 HB5
  generalize rtake n 8 s5 = s6 at *
  generalize rint bs s5 = f5 at *
  go_wp2_with fail
  refine (rg_int (unhide R6)).mono ?_
  rintro e w7 ⟨rfl, r, k⟩
  have R7 := hide r
  have HB7 := hide (k.block (unhide HB6) (by decide))
  have z7 : w.heap.size ≤ w7.heap.size := Nat.le_trans z6 k.size
  clear r k R6 HB6
  generalize rtake n 8 s6 = s7 at *
  generalize rint bs s6 = f6 at *
  go_wp2_with fail
  refine (rg_int (unhide R7)).mono ?_
  rintro e w8 ⟨rfl, r, k⟩
  have R8 := hide r
  have HB8 := hide (k.block (unhide HB7) (by decide))
  have z8 : w.heap.size ≤ w8.heap.size := Nat.le_trans z7 k.size
  clear r k R7 HB7
  generalize rtake n 8 s7 = s8 at *
  generalize rint bs s7 = f7 at *
  go_wp2_with fail
  refine (rg_rule 3 (by decide) (unhide R8)).mono ?_
  rintro e w9 ⟨rfl, r, k⟩
  have R9 := hide r
  have HB9 := hide (k.block (unhide HB8) (by decide))
  have z9 : w.heap.size ≤ w9.heap.size := Nat.le_trans z8 k.size
  clear r k R8 HB8
  generalize rrule bs 3 s8 = g8 at *
  obtain ⟨f8, s9⟩ := g8
  go_wp2_with fail
  refine (rg_list 6 (by decide) (unhide R9)).mono ?_
  rintro e w10 ⟨v, rfl, o, r, k⟩
  obtain ⟨aot, capt, rfl⟩ := row_slice o
  have OT10 := hide (own_wide o z9)
  have R10 := hide r
  have HB10 := hide (k.block (unhide HB9) (by decide))
  have z10 : w.heap.size ≤ w10.heap.size := Nat.le_trans z9 k.size
  clear r k R9 HB9 o
  generalize rlist bs 6 (f8, s9).2 = g9 at *
  obtain ⟨f9, s10⟩ := g9
  obtain ⟨nt, hnt⟩ : ∃ nt, f9.length = nt := ⟨_, rfl⟩
  rw [show (f9, s10).1.length = nt from hnt] at OT10 ⊢
  have HNT := hide hnt
  clear hnt
  go_wp2_with fail
  refine (rg_entries (unhide R10)).mono ?_
  rintro e w11 ⟨v, vs, rfl, o, om, r, k⟩
  obtain ⟨aoe, cape, rfl⟩ := row_slice o
  have OE11 := hide (own_wide o z10)
  have OM11 := hide (om.wide z10)
  have R11 := hide r
  have HB11 := hide (k.block (unhide HB10) (by decide))
  have z11 : w.heap.size ≤ w11.heap.size := Nat.le_trans z10 k.size
  have OT11 := hide (own_only (unhide OT10) k (by decide))
  clear r k R10 HB10 OT10 o om
  generalize rentries bs (f9, s10).2 = g10 at *
  obtain ⟨f10, s11⟩ := g10
  obtain ⟨ne, hne⟩ : ∃ ne, f10.length = ne := ⟨_, rfl⟩
  rw [show (f10, s11).1.length = ne from hne] at OE11 ⊢
  have HNE := hide hne
  clear hne
  go_wp2_with fail
  refine (rg_config (unhide R11)).mono ?_
  rintro e w12 ⟨ao3, cap3, ao4, cap4, rfl, oo, on, r, k⟩
  have OO12 := hide (own_wide oo z11)
  have ON12 := hide (own_wide on z11)
  have R12 := hide r
  have HB12 := hide (k.block (unhide HB11) (by decide))
  have z12 : w.heap.size ≤ w12.heap.size := Nat.le_trans z11 k.size
  have OT12 := hide (own_only (unhide OT11) k (by decide))
  have OE12 := hide (own_only (unhide OE11) k (by decide))
  have OM12 := hide ((unhide OM11).only k (by decide))
  clear r k R11 HB11 OT11 OE11 OM11 oo on
  generalize rconfig bs (f10, s11).2 = g11 at *
  obtain ⟨⟨fo, fn⟩, s12⟩ := g11
  obtain ⟨no, hno⟩ : ∃ no, fo.length = no := ⟨_, rfl⟩
  obtain ⟨nn, hnn⟩ : ∃ nn, fn.length = nn := ⟨_, rfl⟩
  rw [show ((fo, fn), s12).1.1.length = no from hno] at OO12 ⊢
  rw [show ((fo, fn), s12).1.2.length = nn from hnn] at ON12 ⊢
  have HNO := hide hno
  have HNN := hide hnn
  clear hno hnn
  have hb := unhide HB12
  have c0 : w12.cell? ⟨w.heap.size, 0, none⟩ = some (.int .i64 0) := (cell_of_block hb).trans rfl
  have c1 : w12.cell? ⟨w.heap.size, 1, none⟩ = some (.int .i64 0) := (cell_of_block hb).trans rfl
  have c2 : w12.cell? ⟨w.heap.size, 2, none⟩ = some (.int .i64 0) := (cell_of_block hb).trans rfl
  have c3 : w12.cell? ⟨w.heap.size, 3, none⟩ = some (.int .i64 0) := (cell_of_block hb).trans rfl
  have c4 : w12.cell? ⟨w.heap.size, 4, none⟩ = some (.int .i64 0) := (cell_of_block hb).trans rfl
  have c5 : w12.cell? ⟨w.heap.size, 5, none⟩ = some (.int .i64 0) := (cell_of_block hb).trans rfl
  have c6 : w12.cell? ⟨w.heap.size, 6, none⟩ = some (.int .i64 0) := (cell_of_block hb).trans rfl
  have c7 : w12.cell? ⟨w.heap.size, 7, none⟩ = some (.int .i64 0) := (cell_of_block hb).trans rfl
  have c8 : w12.cell? ⟨w.heap.size, 8, none⟩ = some (.bool false) := (cell_of_block hb).trans rfl
  have c9 : w12.cell? ⟨w.heap.size, 9, none⟩ = some (.slice none 0 0) := (cell_of_block hb).trans rfl
  have c10 : w12.cell? ⟨w.heap.size, 10, none⟩ = some (.slice none 0 0) := (cell_of_block hb).trans rfl
  have c11 : w12.cell? ⟨w.heap.size, 11, none⟩ = some (.slice none 0 0) := (cell_of_block hb).trans rfl
  have c12 : w12.cell? ⟨w.heap.size, 12, none⟩ = some (.slice none 0 0) := (cell_of_block hb).trans rfl
  have f : ∀ i, w12.frozen? ⟨w.heap.size, i, none⟩ = false := fun i => free_of_block hb
  clear hb
  go_wp2
  clear c0 c1 c2 c3 c4 c5 c6 c7 c8 c9 c10 c11 c12 f
  obtain ⟨x0, hx⟩ : ∃ x : World, x = w12.setCell ⟨w.heap.size, 0, none⟩ (.int .i64 f0) := ⟨_, rfl⟩
  rw [← hx]
  have q0 : Only w.heap.size [41] w12 x0 ∧ x0.heap[w.heap.size]? = some (.cells #[.int .i64 f0, .int .i64 0, .int .i64 0, .int .i64 0, .int .i64 0, .int .i64 0, .int .i64 0, .int .i64 0, .bool false, .slice none 0 0, .slice none 0 0, .slice none 0 0, .slice none 0 0] 41 (0, 0)) := by rw [hx]; exact set_one ⟨Only.refl _ _ _, unhide HB12⟩ (Nat.le_refl _) (by simp) 0 _
  clear hx
  obtain ⟨x1, hx⟩ : ∃ x : World, x = x0.setCell ⟨w.heap.size, 1, none⟩ (.int .i64 f1) := ⟨_, rfl⟩
  rw [← hx]
  have q1 : Only w.heap.size [41] w12 x1 ∧ x1.heap[w.heap.size]? = some (.cells #[.int .i64 f0, .int .i64 f1, .int .i64 0, .int .i64 0, .int .i64 0, .int .i64 0, .int .i64 0, .int .i64 0, .bool false, .slice none 0 0, .slice none 0 0, .slice none 0 0, .slice none 0 0] 41 (0, 0)) := by rw [hx]; exact set_one q0 (Nat.le_refl _) (by simp) 1 _
  clear hx q0
  obtain ⟨x2, hx⟩ : ∃ x : World, x = x1.setCell ⟨w.heap.size, 2, none⟩ (.int .i64 f2) := ⟨_, rfl⟩
  rw [← hx]
  have q2 : Only w.heap.size [41] w12 x2 ∧ x2.heap[w.heap.size]? = some (.cells #[.int .i64 f0, .int .i64 f1, .int .i64 f2, .int .i64 0, .int .i64 0, .int .i64 0, .int .i64 0, .int .i64 0, .bool false, .slice none 0 0, .slice none 0 0, .slice none 0 0, .slice none 0 0] 41 (0, 0)) := by rw [hx]; exact set_one q1 (Nat.le_refl _) (by simp) 2 _
  clear hx q1
  obtain ⟨x3, hx⟩ : ∃ x : World, x = x2.setCell ⟨w.heap.size, 3, none⟩ (.int .i64 (f3 : Int)) := ⟨_, rfl⟩
  rw [← hx]
  have q3 : Only w.heap.size [41] w12 x3 ∧ x3.heap[w.heap.size]? = some (.cells #[.int .i64 f0, .int .i64 f1, .int .i64 f2, .int .i64 (f3 : Int), .int .i64 0, .int .i64 0, .int .i64 0, .int .i64 0, .bool false, .slice none 0 0, .slice none 0 0, .slice none 0 0, .slice none 0 0] 41 (0, 0)) := by rw [hx]; exact set_one q2 (Nat.le_refl _) (by simp) 3 _
  clear hx q2
  obtain ⟨x4, hx⟩ : ∃ x : World, x = x3.setCell ⟨w.heap.size, 4, none⟩ (.int .i64 f4) := ⟨_, rfl⟩
  rw [← hx]
  have q4 : Only w.heap.size [41] w12 x4 ∧ x4.heap[w.heap.size]? = some (.cells #[.int .i64 f0, .int .i64 f1, .int .i64 f2, .int .i64 (f3 : Int), .int .i64 f4, .int .i64 0, .int .i64 0, .int .i64 0, .bool false, .slice none 0 0, .slice none 0 0, .slice none 0 0, .slice none 0 0] 41 (0, 0)) := by rw [hx]; exact set_one q3 (Nat.le_refl _) (by simp) 4 _
  clear hx q3
  obtain ⟨x5, hx⟩ : ∃ x : World, x = x4.setCell ⟨w.heap.size, 5, none⟩ (.int .i64 f5) := ⟨_, rfl⟩
  rw [← hx]
  have q5 : Only w.heap.size [41] w12 x5 ∧ x5.heap[w.heap.size]? = some (.cells #[.int .i64 f0, .int .i64 f1, .int .i64 f2, .int .i64 (f3 : Int), .int .i64 f4, .int .i64 f5, .int .i64 0, .int .i64 0, .bool false, .slice none 0 0, .slice none 0 0, .slice none 0 0, .slice none 0 0] 41 (0, 0)) := by rw [hx]; exact set_one q4 (Nat.le_refl _) (by simp) 5 _
  clear hx q4
  obtain ⟨x6, hx⟩ : ∃ x : World, x = x5.setCell ⟨w.heap.size, 6, none⟩ (.int .i64 f6) := ⟨_, rfl⟩
  rw [← hx]
  have q6 : Only w.heap.size [41] w12 x6 ∧ x6.heap[w.heap.size]? = some (.cells #[.int .i64 f0, .int .i64 f1, .int .i64 f2, .int .i64 (f3 : Int), .int .i64 f4, .int .i64 f5, .int .i64 f6, .int .i64 0, .bool false, .slice none 0 0, .slice none 0 0, .slice none 0 0, .slice none 0 0] 41 (0, 0)) := by rw [hx]; exact set_one q5 (Nat.le_refl _) (by simp) 6 _
  clear hx q5
  obtain ⟨x7, hx⟩ : ∃ x : World, x = x6.setCell ⟨w.heap.size, 7, none⟩ (.int .i64 f7) := ⟨_, rfl⟩
  rw [← hx]
  have qq7 : Only w.heap.size [41] w12 x7 ∧ x7.heap[w.heap.size]? = some (.cells #[.int .i64 f0, .int .i64 f1, .int .i64 f2, .int .i64 (f3 : Int), .int .i64 f4, .int .i64 f5, .int .i64 f6, .int .i64 f7, .bool false, .slice none 0 0, .slice none 0 0, .slice none 0 0, .slice none 0 0] 41 (0, 0)) := by rw [hx]; exact set_one q6 (Nat.le_refl _) (by simp) 7 _
  clear hx q6
  obtain ⟨x8, hx⟩ : ∃ x : World, x = x7.setCell ⟨w.heap.size, 8, none⟩ (.bool ((f8 : Int) == 1)) := ⟨_, rfl⟩
  rw [← hx]
  have q8 : Only w.heap.size [41] w12 x8 ∧ x8.heap[w.heap.size]? = some (.cells #[.int .i64 f0, .int .i64 f1, .int .i64 f2, .int .i64 (f3 : Int), .int .i64 f4, .int .i64 f5, .int .i64 f6, .int .i64 f7, .bool ((f8 : Int) == 1), .slice none 0 0, .slice none 0 0, .slice none 0 0, .slice none 0 0] 41 (0, 0)) := by rw [hx]; exact set_one qq7 (Nat.le_refl _) (by simp) 8 _
  clear hx qq7
  obtain ⟨x9, hx⟩ : ∃ x : World, x = x8.setCell ⟨w.heap.size, 9, none⟩ (.slice aot nt capt) := ⟨_, rfl⟩
  rw [← hx]
  have q9 : Only w.heap.size [41] w12 x9 ∧ x9.heap[w.heap.size]? = some (.cells #[.int .i64 f0, .int .i64 f1, .int .i64 f2, .int .i64 (f3 : Int), .int .i64 f4, .int .i64 f5, .int .i64 f6, .int .i64 f7, .bool ((f8 : Int) == 1), .slice aot nt capt, .slice none 0 0, .slice none 0 0, .slice none 0 0] 41 (0, 0)) := by rw [hx]; exact set_one q8 (Nat.le_refl _) (by simp) 9 _
  clear hx q8
  obtain ⟨x10, hx⟩ : ∃ x : World, x = x9.setCell ⟨w.heap.size, 10, none⟩ (.slice aoe ne cape) := ⟨_, rfl⟩
  rw [← hx]
  have q10 : Only w.heap.size [41] w12 x10 ∧ x10.heap[w.heap.size]? = some (.cells #[.int .i64 f0, .int .i64 f1, .int .i64 f2, .int .i64 (f3 : Int), .int .i64 f4, .int .i64 f5, .int .i64 f6, .int .i64 f7, .bool ((f8 : Int) == 1), .slice aot nt capt, .slice aoe ne cape, .slice none 0 0, .slice none 0 0] 41 (0, 0)) := by rw [hx]; exact set_one q9 (Nat.le_refl _) (by simp) 10 _
  clear hx q9
  obtain ⟨x11, hx⟩ : ∃ x : World, x = x10.setCell ⟨w.heap.size, 11, none⟩ (.slice ao3 no cap3) := ⟨_, rfl⟩
  rw [← hx]
  have q11 : Only w.heap.size [41] w12 x11 ∧ x11.heap[w.heap.size]? = some (.cells #[.int .i64 f0, .int .i64 f1, .int .i64 f2, .int .i64 (f3 : Int), .int .i64 f4, .int .i64 f5, .int .i64 f6, .int .i64 f7, .bool ((f8 : Int) == 1), .slice aot nt capt, .slice aoe ne cape, .slice ao3 no cap3, .slice none 0 0] 41 (0, 0)) := by rw [hx]; exact set_one q10 (Nat.le_refl _) (by simp) 11 _
  clear hx q10
  obtain ⟨wf, hx⟩ : ∃ x : World, x = x11.setCell ⟨w.heap.size, 12, none⟩ (.slice ao4 nn cap4) := ⟨_, rfl⟩
  rw [← hx]
  have q7 : Only w.heap.size [41] w12 wf ∧ wf.heap[w.heap.size]? = some (.cells #[.int .i64 f0, .int .i64 f1, .int .i64 f2, .int .i64 (f3 : Int), .int .i64 f4, .int .i64 f5, .int .i64 f6, .int .i64 f7, .bool ((f8 : Int) == 1), .slice aot nt capt, .slice aoe ne cape, .slice ao3 no cap3, .slice ao4 nn cap4] 41 (0, 0)) := by rw [hx]; exact set_one q11 (Nat.le_refl _) (by simp) 12 _
  clear hx q11
  clear HB12
  have c0 : wf.cell? ⟨w.heap.size, 0, none⟩ = some (.int .i64 f0) := (cell_of_block q7.2).trans rfl
  have c1 : wf.cell? ⟨w.heap.size, 1, none⟩ = some (.int .i64 f1) := (cell_of_block q7.2).trans rfl
  have c2 : wf.cell? ⟨w.heap.size, 2, none⟩ = some (.int .i64 f2) := (cell_of_block q7.2).trans rfl
  have c3 : wf.cell? ⟨w.heap.size, 3, none⟩ = some (.int .i64 (f3 : Int)) := (cell_of_block q7.2).trans rfl
  have c4 : wf.cell? ⟨w.heap.size, 4, none⟩ = some (.int .i64 f4) := (cell_of_block q7.2).trans rfl
  have c5 : wf.cell? ⟨w.heap.size, 5, none⟩ = some (.int .i64 f5) := (cell_of_block q7.2).trans rfl
  have c6 : wf.cell? ⟨w.heap.size, 6, none⟩ = some (.int .i64 f6) := (cell_of_block q7.2).trans rfl
  have c7 : wf.cell? ⟨w.heap.size, 7, none⟩ = some (.int .i64 f7) := (cell_of_block q7.2).trans rfl
  have c8 : wf.cell? ⟨w.heap.size, 8, none⟩ = some (.bool ((f8 : Int) == 1)) := (cell_of_block q7.2).trans rfl
  have c9 : wf.cell? ⟨w.heap.size, 9, none⟩ = some (.slice aot nt capt) := (cell_of_block q7.2).trans rfl
  have c10 : wf.cell? ⟨w.heap.size, 10, none⟩ = some (.slice aoe ne cape) := (cell_of_block q7.2).trans rfl
  have c11 : wf.cell? ⟨w.heap.size, 11, none⟩ = some (.slice ao3 no cap3) := (cell_of_block q7.2).trans rfl
  have c12 : wf.cell? ⟨w.heap.size, 12, none⟩ = some (.slice ao4 nn cap4) := (cell_of_block q7.2).trans rfl
  have r7 := (unhide R12).1.own q7.1 (by decide) (by decide)
  have k7 := (unhide R12).2.2.2.fresh q7.1.below hbase
  refine bodyPost_ret (v := .agg #[.int .i64 f0, .int .i64 f1, .int .i64 f2, .int .i64 (f3 : Int), .int .i64 f4, .int .i64 f5, .int .i64 f6, .int .i64 f7, .bool ((f8 : Int) == 1), .slice aot nt capt, .slice aoe ne cape, .slice ao3 no cap3, .slice ao4 nn cap4]) (by simp [results, Tryd.results48, go_sem, c0, c1, c2, c3, c4, c5, c6, c7, c8, c9, c10, c11, c12]) rfl ?_
  rw [unhide E1]
  refine ⟨.slice aot nt capt, .slice aoe ne cape, .slice ao3 no cap3, .slice ao4 nn cap4, vs, rfl, ?_, (unhide H0).next r7 k7, k7⟩
  simp only [Mes.rows, unhide HNT, unhide HNE, unhide HNO, unhide HNN]
  exact ⟨own_only (unhide OT12) q7.1 (by decide), own_only (unhide OE12) q7.1 (by decide), (unhide OM12).only q7.1 (by decide), own_only (unhide OO12) q7.1 (by decide), own_only (unhide ON12) q7.1 (by decide)⟩
end Go.Proofs.YthjpdglbliigcaaDoor
