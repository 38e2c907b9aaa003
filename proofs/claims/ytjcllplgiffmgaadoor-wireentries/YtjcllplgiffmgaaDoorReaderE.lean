/- wire's reader: entry, config: contracts. -/
import Derived.Test.YtjcllplgiffmgaaDoorReaderL
namespace Go.Proofs.YtjcllplgiffmgaaDoor
open Go.RowKit

/-- an entry, plainly. -/
structure Ent where
  kind : Int
  client : Int
  seq : Int
  data : List Nat
  members : List Int
  to' : Int
/-- what entry answers, and does. -/
def rentry (bs : List Nat) (s : Nat × Nat) : Ent × (Nat × Nat) :=
  let a := rrule bs 0 s
  let b := rtake bs.length 8 a.2
  let c := rtake bs.length 8 b
  let d := rtext bs c
  let m := rlist bs 5 d.2
  let t := rrule bs 1 m.2
  (⟨a.1, rint bs a.2, rint bs b, d.1, m.1, t.1⟩, t.2)
/-- the cells of an entry. -/
def Ent.cells (x : Ent) (v : Value) : Array Value := #[.int .i64 x.kind, .int .i64 x.client, .int .i64 x.seq, .string (str x.data), v, .int .i64 x.to']

theorem row_slice {w : World} {base : Nat} {e : TypeId} {z : Nat} {v : Value} {m : Nat} {vs : List Value} (h : w.ownsRow base e z v m vs) : ∃ ao cap, v = .slice ao m cap := by
  rcases h.2 with ⟨e1, h0⟩ | ⟨g, cap', cur, e1, _⟩
  · subst e1; exact ⟨none, 0, by simp_all⟩
  · exact ⟨_, _, e1⟩
theorem own_wide {w : World} {b b' : Nat} {e : TypeId} {z : Nat} {v : Value} {m : Nat} {vs : List Value} (h : w.ownsRow b e z v m vs) (hb : b' ≤ b) : w.ownsRow b' e z v m vs := by
  refine ⟨h.1, ?_⟩
  rcases h.2 with h | ⟨g, cap', cur, e1, h1, h2⟩
  · exact Or.inl h
  · exact Or.inr ⟨g, cap', cur, e1, Nat.le_trans hb h1, h2⟩
/-- one cell of a block of the call's own is set. -/
theorem set_one {base b : Nat} {ts : List TypeId} {a w : World} {cs : Array Value} {t : TypeId} {fr : Nat × Nat} (h : Only base ts a w ∧ w.heap[b]? = some (.cells cs t fr)) (hb : base ≤ b) (ht : t ∈ ts) (i : Nat) (u : Value) :
    Only base ts a (w.setCell ⟨b, i, none⟩ u) ∧ (w.setCell ⟨b, i, none⟩ u).heap[b]? = some (.cells (cs.setIfInBounds i u) t fr) :=
  ⟨h.1.setCell (p := ⟨b, i, none⟩) hb u h.2 ht, setCell_block h.2⟩
theorem Rg.start {base : Nat} {w : World} {p : Nat} {ao : Option Addr} {n cap : Nat} {bs : List Nat} {s : Nat × Nat} (h : Re base w p ao n cap s.1 s.2) (hs : Src base w ao n cap bs) (hbase : base ≤ w.heap.size) : Rg base w w p ao n cap bs s := ⟨h, hs, hbase, Only.refl _ _ _⟩
theorem Rg.alloc {base : Nat} {w0 w : World} {p : Nat} {ao : Option Addr} {n cap : Nat} {bs : List Nat} {s : Nat × Nat} (h : Rg base w0 w p ao n cap bs s) (o : Obj) : Rg base w0 (w.alloc o) p ao n cap bs s :=
  h.next (h.1.below ((Below.refl _ w).alloc (Nat.le_refl _) o)) (Only.of_below ((Below.refl _ w).alloc (Nat.le_refl _) o) h.2.2.1)

set_option maxRecDepth 20000 in
set_option maxHeartbeats 2000000 in
theorem rg_entry {base : Nat} {wz w : World} {p : Nat} {ao : Option Addr} {n cap : Nat} {bs : List Nat} {s : Nat × Nat} (h : Rg base wz w p ao n cap bs s) :
    Calls Tryd.prog 37 #[.pointer (some ⟨p, 0, none⟩)] w fun e w' => ∃ v, e = .returned (.agg ((rentry bs s).1.cells v)) ∧ w'.ownsRow w.heap.size 3 1 v (rentry bs s).1.members.length (i64s (rentry bs s).1.members) ∧ Rg base wz w' p ao n cap bs (rentry bs s).2 ∧ Only base [113] w w' := by
  have E1 : Hid (rentry bs s = (⟨(rrule bs 0 s).1, rint bs (rrule bs 0 s).2, rint bs (rtake n 8 (rrule bs 0 s).2), (rtext bs (rtake n 8 (rtake n 8 (rrule bs 0 s).2))).1, (rlist bs 5 (rtext bs (rtake n 8 (rtake n 8 (rrule bs 0 s).2))).2).1, (rrule bs 1 (rlist bs 5 (rtext bs (rtake n 8 (rtake n 8 (rrule bs 0 s).2))).2).2).1⟩, (rrule bs 1 (rlist bs 5 (rtext bs (rtake n 8 (rtake n 8 (rrule bs 0 s).2))).2).2).2)) := by show _ = _; unfold rentry; rw [h.2.1.len]
  obtain ⟨g0, hg0⟩ : ∃ g0 : World, g0 = w.alloc (.cells #[.int .i64 0, .int .i64 0, .int .i64 0, .string ⟨#[]⟩, .slice none 0 0, .int .i64 0] 24) := ⟨_, rfl⟩
  have hbase := h.2.2.1
  have H0 := hide h
  have HG : Hid (Rg base w g0 p ao n cap bs s) := by subst hg0; exact (Rg.start h.1 h.2.1 h.2.2.1).alloc _
  have hb0 : g0.heap[w.heap.size]? = some (.cells #[.int .i64 0, .int .i64 0, .int .i64 0, .string ⟨#[]⟩, .slice none 0 0, .int .i64 0] 24 (0, 0)) := by subst hg0; exact heap_alloc_new _ _
  have HB := hide hb0
  have HE := hide hg0
  have z0 : w.heap.size ≤ g0.heap.size := by subst hg0; simp
  clear h hb0 hg0
  go_enter Tryd.func37, Tryd.ntmps37
  go_wp2_with fail
  rw [← unhide HE]
  clear HE
  refine (rg_rule 0 (by decide) (unhide HG)).mono ?_
  rintro e w1 ⟨rfl, r1, k1⟩
  have R1 := hide r1
  have HB1 := hide (k1.block (unhide HB) (by decide))
  have z1 : w.heap.size ≤ w1.heap.size := Nat.le_trans z0 k1.size
  clear r1 k1 HG HB
  generalize rrule bs 0 s = a at *
  obtain ⟨a, sa⟩ := a
  go_wp2_with fail
  refine (rg_int (unhide R1)).mono ?_
  rintro e w2 ⟨rfl, r2, k2⟩
  have R2 := hide r2
  have HB2 := hide (k2.block (unhide HB1) (by decide))
  have z2 : w.heap.size ≤ w2.heap.size := Nat.le_trans z1 k2.size
  clear r2 k2 R1 HB1
  generalize rtake n 8 (a, sa).2 = sb at *
  generalize rint bs (a, sa).2 = b at *
  go_wp2_with fail
  refine (rg_int (unhide R2)).mono ?_
  rintro e w3 ⟨rfl, r3, k3⟩
  have R3 := hide r3
  have HB3 := hide (k3.block (unhide HB2) (by decide))
  have z3 : w.heap.size ≤ w3.heap.size := Nat.le_trans z2 k3.size
  clear r3 k3 R2 HB2
  generalize rtake n 8 sb = sc at *
  generalize rint bs sb = c at *
  go_wp2_with fail
  refine (rg_text (unhide R3)).mono ?_
  rintro e w4 ⟨rfl, r4, k4⟩
  have R4 := hide r4
  have HB4 := hide (k4.block (unhide HB3) (by decide))
  have z4 : w.heap.size ≤ w4.heap.size := Nat.le_trans z3 k4.size
  clear r4 k4 R3 HB3
  generalize rtext bs sc = d at *
  obtain ⟨d, sd⟩ := d
  go_wp2_with fail
  refine (rg_list 5 (by decide) (unhide R4)).mono ?_
  rintro e w5 ⟨v, rfl, o5, r5, k5⟩
  obtain ⟨aov, capv, rfl⟩ := row_slice o5
  have O5 := hide o5
  have R5 := hide r5
  have HB5 := hide (k5.block (unhide HB4) (by decide))
  have z5 : w.heap.size ≤ w5.heap.size := Nat.le_trans z4 k5.size
  clear o5 r5 k5 R4 HB4
  generalize rlist bs 5 (d, sd).2 = m at *
  obtain ⟨m, sm⟩ := m
  obtain ⟨nm, hnm⟩ : ∃ nm, m.length = nm := ⟨_, rfl⟩
  rw [show (m, sm).1.length = nm from hnm] at O5 ⊢
  have HNM := hide hnm
  clear hnm
  go_wp2_with fail
  refine (rg_rule 1 (by decide) (unhide R5)).mono ?_
  rintro e w6 ⟨rfl, r6, k6⟩
  have R6 := hide r6
  have hb6 := k6.block (unhide HB5) (by decide)
  have O6 := hide (own_only (unhide O5) k6 (by decide))
  have z6 : w.heap.size ≤ w6.heap.size := Nat.le_trans z5 k6.size
  clear r6 k6 R5 HB5 O5
  generalize rrule bs 1 (m, sm).2 = t at *
  obtain ⟨t, st⟩ := t
  have c0 : w6.cell? ⟨w.heap.size, 0, none⟩ = some (.int .i64 0) := (cell_of_block hb6).trans rfl
  have c1 : w6.cell? ⟨w.heap.size, 1, none⟩ = some (.int .i64 0) := (cell_of_block hb6).trans rfl
  have c2 : w6.cell? ⟨w.heap.size, 2, none⟩ = some (.int .i64 0) := (cell_of_block hb6).trans rfl
  have c3 : w6.cell? ⟨w.heap.size, 3, none⟩ = some (.string ⟨#[]⟩) := (cell_of_block hb6).trans rfl
  have c4 : w6.cell? ⟨w.heap.size, 4, none⟩ = some (.slice none 0 0) := (cell_of_block hb6).trans rfl
  have c5 : w6.cell? ⟨w.heap.size, 5, none⟩ = some (.int .i64 0) := (cell_of_block hb6).trans rfl
  have f6 : ∀ i, w6.frozen? ⟨w.heap.size, i, none⟩ = false := fun i => free_of_block hb6
  have HB6 := hide hb6
  clear hb6
  go_wp2
  obtain ⟨w7, h7⟩ : ∃ w7 : World, w7 = ((((((w6.setCell ⟨w.heap.size, 0, none⟩ (.int .i64 (a : Int))).setCell ⟨w.heap.size, 1, none⟩ (.int .i64 b)).setCell ⟨w.heap.size, 2, none⟩ (.int .i64 c)).setCell ⟨w.heap.size, 3, none⟩ (.string (str d))).setCell ⟨w.heap.size, 4, none⟩ (.slice aov nm capv)).setCell ⟨w.heap.size, 5, none⟩ (.int .i64 (t : Int))) := ⟨_, rfl⟩
  rw [← h7]
  have q7 : Only w.heap.size [24] w6 w7 ∧ w7.heap[w.heap.size]? = some (.cells #[.int .i64 (a : Int), .int .i64 b, .int .i64 c, .string (str d), .slice aov nm capv, .int .i64 (t : Int)] 24 (0, 0)) := by
    rw [h7]
    exact set_one (set_one (set_one (set_one (set_one (set_one ⟨Only.refl _ _ _, unhide HB6⟩ (Nat.le_refl _) (by simp) 0 _) (Nat.le_refl _) (by simp) 1 _) (Nat.le_refl _) (by simp) 2 _) (Nat.le_refl _) (by simp) 3 _) (Nat.le_refl _) (by simp) 4 _) (Nat.le_refl _) (by simp) 5 _
  clear h7 c0 c1 c2 c3 c4 c5 f6 HB6
  have c0 : w7.cell? ⟨w.heap.size, 0, none⟩ = some (.int .i64 (a : Int)) := (cell_of_block q7.2).trans rfl
  have c1 : w7.cell? ⟨w.heap.size, 1, none⟩ = some (.int .i64 b) := (cell_of_block q7.2).trans rfl
  have c2 : w7.cell? ⟨w.heap.size, 2, none⟩ = some (.int .i64 c) := (cell_of_block q7.2).trans rfl
  have c3 : w7.cell? ⟨w.heap.size, 3, none⟩ = some (.string (str d)) := (cell_of_block q7.2).trans rfl
  have c4 : w7.cell? ⟨w.heap.size, 4, none⟩ = some (.slice aov nm capv) := (cell_of_block q7.2).trans rfl
  have c5 : w7.cell? ⟨w.heap.size, 5, none⟩ = some (.int .i64 (t : Int)) := (cell_of_block q7.2).trans rfl
  have r7 := (unhide R6).1.own q7.1 (by decide) (by decide)
  have k7 := (unhide R6).2.2.2.fresh q7.1.below hbase
  refine bodyPost_ret (v := .agg #[.int .i64 (a : Int), .int .i64 b, .int .i64 c, .string (str d), .slice aov nm capv, .int .i64 (t : Int)]) (by simp [results, Tryd.results37, go_sem, c0, c1, c2, c3, c4, c5]) rfl ?_
  rw [unhide E1]
  refine ⟨.slice aov nm capv, rfl, ?_, (unhide H0).next r7 k7, k7⟩
  simp only [unhide HNM]
  exact own_wide (own_only (unhide O6) q7.1 (by decide)) z4
end Go.Proofs.YtjcllplgiffmgaaDoor
