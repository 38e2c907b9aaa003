/- wire's reader: entry, config: contracts. wire's reader: config, entries: contracts. wire's reader: msg: a contract. -/
import Derived.Test.YtjplhiflemmkfaaGreatDoorReaderI
namespace Go.Proofs.YtjplhiflemmkfaaGreatDoor
open Go.RowKit

/-- an entry, plainly. -/
structure Ent where
  kind : Int
  client : Int
  seq : Int
  data : List Nat
  members : List Int
  to' : Int
/-- what entry answers, and does. -/
def rentry (bs : List Nat) (s : Nat × Nat) : Ent × (Nat × Nat) :=
  let a := rrule bs 0 s
  let b := rtake bs.length 8 a.2
  let c := rtake bs.length 8 b
  let d := rtext bs c
  let m := rlist bs 5 d.2
  let t := rrule bs 1 m.2
  (⟨a.1, rint bs a.2, rint bs b, d.1, m.1, t.1⟩, t.2)
/-- the cells of an entry. -/
def Ent.cells (x : Ent) (v : Value) : Array Value := #[.int .i64 x.kind, .int .i64 x.client, .int .i64 x.seq, .string (str x.data), v, .int .i64 x.to']

theorem row_slice {w : World} {base : Nat} {e : TypeId} {z : Nat} {v : Value} {m : Nat} {vs : List Value} (h : w.ownsRow base e z v m vs) : ∃ ao cap, v = .slice ao m cap := by
  rcases h.2 with ⟨e1, h0⟩ | ⟨g, cap', cur, e1, _⟩
  · subst e1; exact ⟨none, 0, by simp_all⟩
  · exact ⟨_, _, e1⟩
theorem own_wide {w : World} {b b' : Nat} {e : TypeId} {z : Nat} {v : Value} {m : Nat} {vs : List Value} (h : w.ownsRow b e z v m vs) (hb : b' ≤ b) : w.ownsRow b' e z v m vs := by
  refine ⟨h.1, ?_⟩
  rcases h.2 with h | ⟨g, cap', cur, e1, h1, h2⟩
  · exact Or.inl h
  · exact Or.inr ⟨g, cap', cur, e1, Nat.le_trans hb h1, h2⟩
/-- one cell of a block of the call's own is set. -/
theorem set_one {base b : Nat} {ts : List TypeId} {a w : World} {cs : Array Value} {t : TypeId} {fr : Nat × Nat} (h : Only base ts a w ∧ w.heap[b]? = some (.cells cs t fr)) (hb : base ≤ b) (ht : t ∈ ts) (i : Nat) (u : Value) :
    Only base ts a (w.setCell ⟨b, i, none⟩ u) ∧ (w.setCell ⟨b, i, none⟩ u).heap[b]? = some (.cells (cs.setIfInBounds i u) t fr) :=
  ⟨h.1.setCell (p := ⟨b, i, none⟩) hb u h.2 ht, setCell_block h.2⟩
theorem Rg.start {base : Nat} {w : World} {p : Nat} {ao : Option Addr} {n cap : Nat} {bs : List Nat} {s : Nat × Nat} (h : Re base w p ao n cap s.1 s.2) (hs : Src base w ao n cap bs) (hbase : base ≤ w.heap.size) : Rg base w w p ao n cap bs s := ⟨h, hs, hbase, Only.refl _ _ _⟩
theorem Rg.alloc {base : Nat} {w0 w : World} {p : Nat} {ao : Option Addr} {n cap : Nat} {bs : List Nat} {s : Nat × Nat} (h : Rg base w0 w p ao n cap bs s) (o : Obj) : Rg base w0 (w.alloc o) p ao n cap bs s :=
  h.next (h.1.below ((Below.refl _ w).alloc (Nat.le_refl _) o)) (Only.of_below ((Below.refl _ w).alloc (Nat.le_refl _) o) h.2.2.1)

set_option maxRecDepth 20000 in
set_option maxHeartbeats 2000000 in
theorem rg_entry {base : Nat} {wz w : World} {p : Nat} {ao : Option Addr} {n cap : Nat} {bs : List Nat} {s : Nat × Nat} (h : Rg base wz w p ao n cap bs s) :
    Calls Tryz.prog 323 #[.pointer (some ⟨p, 0, none⟩)] w fun e w' => ∃ v, e = .returned (.agg ((rentry bs s).1.cells v)) ∧ w'.ownsRow w.heap.size 3 1 v (rentry bs s).1.members.length (i64s (rentry bs s).1.members) ∧ Rg base wz w' p ao n cap bs (rentry bs s).2 ∧ Only base [357] w w' := by
  have E1 : Hid (rentry bs s = (⟨(rrule bs 0 s).1, rint bs (rrule bs 0 s).2, rint bs (rtake n 8 (rrule bs 0 s).2), (rtext bs (rtake n 8 (rtake n 8 (rrule bs 0 s).2))).1, (rlist bs 5 (rtext bs (rtake n 8 (rtake n 8 (rrule bs 0 s).2))).2).1, (rrule bs 1 (rlist bs 5 (rtext bs (rtake n 8 (rtake n 8 (rrule bs 0 s).2))).2).2).1⟩, (rrule bs 1 (rlist bs 5 (rtext bs (rtake n 8 (rtake n 8 (rrule bs 0 s).2))).2).2).2)) := by show _ = _; unfold rentry; rw [h.2.1.len]
  obtain ⟨g0, hg0⟩ : ∃ g0 : World, g0 = w.alloc (.cells #[.int .i64 0, .int .i64 0, .int .i64 0, .string ⟨#[]⟩, .slice none 0 0, .int .i64 0] 43) := ⟨_, rfl⟩
  have hbase := h.2.2.1
  have H0 := hide h
  have HG : Hid (Rg base w g0 p ao n cap bs s) := by subst hg0; exact (Rg.start h.1 h.2.1 h.2.2.1).alloc _
  have hb0 : g0.heap[w.heap.size]? = some (.cells #[.int .i64 0, .int .i64 0, .int .i64 0, .string ⟨#[]⟩, .slice none 0 0, .int .i64 0] 43 (0, 0)) := by subst hg0; exact heap_alloc_new _ _
  have HB := hide hb0
  have HE := hide hg0
  have z0 : w.heap.size ≤ g0.heap.size := by subst hg0; simp
  clear h hb0 hg0
  go_enter Tryz.func323, Tryz.ntmps323
  go_wp2_with fail
  rw [← unhide HE]
  clear HE
  refine (rg_rule 0 (by decide) (unhide HG)).mono ?_
  rintro e w1 ⟨rfl, r1, k1⟩
  have R1 := hide r1
  have HB1 := hide (k1.block (unhide HB) (by decide))
  have z1 : w.heap.size ≤ w1.heap.size := Nat.le_trans z0 k1.size
  clear r1 k1 HG HB
  generalize rrule bs 0 s = a at *
  obtain ⟨a, sa⟩ := a
  go_wp2_with fail
  refine (rg_int (unhide R1)).mono ?_
  rintro e w2 ⟨rfl, r2, k2⟩
  have R2 := hide r2
  have HB2 := hide (k2.block (unhide HB1) (by decide))
  have z2 : w.heap.size ≤ w2.heap.size := Nat.le_trans z1 k2.size
  clear r2 k2 R1 HB1
  generalize rtake n 8 (a, sa).2 = sb at *
  generalize rint bs (a, sa).2 = b at *
  go_wp2_with fail
  refine (rg_int (unhide R2)).mono ?_
  rintro e w3 ⟨rfl, r3, k3⟩
  have R3 := hide r3
  have HB3 := hide (k3.block (unhide HB2) (by decide))
  have z3 : w.heap.size ≤ w3.heap.size := Nat.le_trans z2 k3.size
  clear r3 k3 R2 HB2
  generalize rtake n 8 sb = sc at *
  generalize rint bs sb = c at *
  go_wp2_with fail
  refine (rg_text (unhide R3)).mono ?_
  rintro e w4 ⟨rfl, r4, k4⟩
  have R4 := hide r4
  have HB4 := hide (k4.block (unhide HB3) (by decide))
  have z4 : w.heap.size ≤ w4.heap.size := Nat.le_trans z3 k4.size
  clear r4 k4 R3 HB3
  generalize rtext bs sc = d at *
  obtain ⟨d, sd⟩ := d
  go_wp2_with fail
  refine (rg_list 5 (by decide) (unhide R4)).mono ?_
  rintro e w5 ⟨v, rfl, o5, r5, k5⟩
  obtain ⟨aov, capv, rfl⟩ := row_slice o5
  have O5 := hide o5
  have R5 := hide r5
  have HB5 := hide (k5.block (unhide HB4) (by decide))
  have z5 : w.heap.size ≤ w5.heap.size := Nat.le_trans z4 k5.size
  clear o5 r5 k5 R4 HB4
  generalize rlist bs 5 (d, sd).2 = m at *
  obtain ⟨m, sm⟩ := m
  obtain ⟨nm, hnm⟩ : ∃ nm, m.length = nm := ⟨_, rfl⟩
  rw [show (m, sm).1.length = nm from hnm] at O5 ⊢
  have HNM := hide hnm
  clear hnm
  go_wp2_with fail
  refine (rg_rule 1 (by decide) (unhide R5)).mono ?_
  rintro e w6 ⟨rfl, r6, k6⟩
  have R6 := hide r6
  have hb6 := k6.block (unhide HB5) (by decide)
  have O6 := hide (own_only (unhide O5) k6 (by decide))
  have z6 : w.heap.size ≤ w6.heap.size := Nat.le_trans z5 k6.size
  clear r6 k6 R5 HB5 O5
  generalize rrule bs 1 (m, sm).2 = t at *
  obtain ⟨t, st⟩ := t
  have c0 : w6.cell? ⟨w.heap.size, 0, none⟩ = some (.int .i64 0) := (cell_of_block hb6).trans rfl
  have c1 : w6.cell? ⟨w.heap.size, 1, none⟩ = some (.int .i64 0) := (cell_of_block hb6).trans rfl
  have c2 : w6.cell? ⟨w.heap.size, 2, none⟩ = some (.int .i64 0) := (cell_of_block hb6).trans rfl
  have c3 : w6.cell? ⟨w.heap.size, 3, none⟩ = some (.string ⟨#[]⟩) := (cell_of_block hb6).trans rfl
  have c4 : w6.cell? ⟨w.heap.size, 4, none⟩ = some (.slice none 0 0) := (cell_of_block hb6).trans rfl
  have c5 : w6.cell? ⟨w.heap.size, 5, none⟩ = some (.int .i64 0) := (cell_of_block hb6).trans rfl
  have f6 : ∀ i, w6.frozen? ⟨w.heap.size, i, none⟩ = false := fun i => free_of_block hb6
  have HB6 := hide hb6
  clear hb6
  go_wp2
  obtain ⟨w7, h7⟩ : ∃ w7 : World, w7 = ((((((w6.setCell ⟨w.heap.size, 0, none⟩ (.int .i64 (a : Int))).setCell ⟨w.heap.size, 1, none⟩ (.int .i64 b)).setCell ⟨w.heap.size, 2, none⟩ (.int .i64 c)).setCell ⟨w.heap.size, 3, none⟩ (.string (str d))).setCell ⟨w.heap.size, 4, none⟩ (.slice aov nm capv)).setCell ⟨w.heap.size, 5, none⟩ (.int .i64 (t : Int))) := ⟨_, rfl⟩
  rw [← h7]
  have q7 : Only w.heap.size [43] w6 w7 ∧ w7.heap[w.heap.size]? = some (.cells #[.int .i64 (a : Int), .int .i64 b, .int .i64 c, .string (str d), .slice aov nm capv, .int .i64 (t : Int)] 43 (0, 0)) := by
    rw [h7]
    exact set_one (set_one (set_one (set_one (set_one (set_one ⟨Only.refl _ _ _, unhide HB6⟩ (Nat.le_refl _) (by simp) 0 _) (Nat.le_refl _) (by simp) 1 _) (Nat.le_refl _) (by simp) 2 _) (Nat.le_refl _) (by simp) 3 _) (Nat.le_refl _) (by simp) 4 _) (Nat.le_refl _) (by simp) 5 _
  clear h7 c0 c1 c2 c3 c4 c5 f6 HB6
  have c0 : w7.cell? ⟨w.heap.size, 0, none⟩ = some (.int .i64 (a : Int)) := (cell_of_block q7.2).trans rfl
  have c1 : w7.cell? ⟨w.heap.size, 1, none⟩ = some (.int .i64 b) := (cell_of_block q7.2).trans rfl
  have c2 : w7.cell? ⟨w.heap.size, 2, none⟩ = some (.int .i64 c) := (cell_of_block q7.2).trans rfl
  have c3 : w7.cell? ⟨w.heap.size, 3, none⟩ = some (.string (str d)) := (cell_of_block q7.2).trans rfl
  have c4 : w7.cell? ⟨w.heap.size, 4, none⟩ = some (.slice aov nm capv) := (cell_of_block q7.2).trans rfl
  have c5 : w7.cell? ⟨w.heap.size, 5, none⟩ = some (.int .i64 (t : Int)) := (cell_of_block q7.2).trans rfl
  have r7 := (unhide R6).1.own q7.1 (by decide) (by decide)
  have k7 := (unhide R6).2.2.2.fresh q7.1.below hbase
  refine bodyPost_ret (v := .agg #[.int .i64 (a : Int), .int .i64 b, .int .i64 c, .string (str d), .slice aov nm capv, .int .i64 (t : Int)]) (by simp [results, Tryz.results323, go_sem, c0, c1, c2, c3, c4, c5]) rfl ?_
  rw [unhide E1]
  refine ⟨.slice aov nm capv, rfl, ?_, (unhide H0).next r7 k7, k7⟩
  simp only [unhide HNM]
  exact own_wide (own_only (unhide O6) q7.1 (by decide)) z4
end Go.Proofs.YtjplhiflemmkfaaGreatDoor
namespace Go.Proofs.YtjplhiflemmkfaaGreatDoor
open Go.RowKit

/-- what config answers, and does. -/
def rconfig (bs : List Nat) (s : Nat × Nat) : (List Int × List Int) × (Nat × Nat) :=
  (((rlist bs 5 s).1, (rlist bs 5 (rlist bs 5 s).2).1), (rlist bs 5 (rlist bs 5 s).2).2)

set_option maxRecDepth 20000 in
set_option maxHeartbeats 2000000 in
theorem rg_config {base : Nat} {wz w : World} {p : Nat} {ao : Option Addr} {n cap : Nat} {bs : List Nat} {s : Nat × Nat} (h : Rg base wz w p ao n cap bs s) :
    Calls Tryz.prog 308 #[.pointer (some ⟨p, 0, none⟩)] w fun e w' => ∃ ao1 cap1 ao2 cap2, e = .returned (.agg #[.slice ao1 (rconfig bs s).1.1.length cap1, .slice ao2 (rconfig bs s).1.2.length cap2]) ∧ w'.ownsRow w.heap.size 3 1 (.slice ao1 (rconfig bs s).1.1.length cap1) (rconfig bs s).1.1.length (i64s (rconfig bs s).1.1) ∧ w'.ownsRow w.heap.size 3 1 (.slice ao2 (rconfig bs s).1.2.length cap2) (rconfig bs s).1.2.length (i64s (rconfig bs s).1.2) ∧ Rg base wz w' p ao n cap bs (rconfig bs s).2 ∧ Only base [357] w w' := by
  have E1 : Hid (rconfig bs s = (((rlist bs 5 s).1, (rlist bs 5 (rlist bs 5 s).2).1), (rlist bs 5 (rlist bs 5 s).2).2)) := by show _ = _; rfl
  obtain ⟨g0, hg0⟩ : ∃ g0 : World, g0 = w.alloc (.cells #[.slice none 0 0, .slice none 0 0] 26) := ⟨_, rfl⟩
  have hbase := h.2.2.1
  have H0 := hide h
  have HG : Hid (Rg base w g0 p ao n cap bs s) := by subst hg0; exact (Rg.start h.1 h.2.1 h.2.2.1).alloc _
  have HB : Hid (g0.heap[w.heap.size]? = some (.cells #[.slice none 0 0, .slice none 0 0] 26 (0, 0))) := by subst hg0; exact heap_alloc_new _ _
  have HE := hide hg0
  have z0 : w.heap.size ≤ g0.heap.size := by subst hg0; simp
  clear h hg0
  go_enter Tryz.func308, Tryz.ntmps308
  go_wp2_with fail
  rw [← unhide HE]
  clear HE
  refine (rg_list 5 (by decide) (unhide HG)).mono ?_
  rintro e w1 ⟨v, rfl, o1, r1, k1⟩
  obtain ⟨ao1, cap1, rfl⟩ := row_slice o1
  have O1 := hide o1
  have R1 := hide r1
  have HB1 := hide (k1.block (unhide HB) (by decide))
  have z1 : w.heap.size ≤ w1.heap.size := Nat.le_trans z0 k1.size
  clear o1 r1 k1 HG HB
  generalize rlist bs 5 s = m at *
  obtain ⟨m, sm⟩ := m
  obtain ⟨nm, hnm⟩ : ∃ nm, m.length = nm := ⟨_, rfl⟩
  rw [show (m, sm).1.length = nm from hnm] at O1 ⊢
  have HNM := hide hnm
  clear hnm
  go_wp2_with fail
  refine (rg_list 5 (by decide) (unhide R1)).mono ?_
  rintro e w2 ⟨v, rfl, o2, r2, k2⟩
  obtain ⟨ao2, cap2, rfl⟩ := row_slice o2
  have O2 := hide o2
  have O1' := hide (own_only (unhide O1) k2 (by decide))
  have R2 := hide r2
  have hb2 := k2.block (unhide HB1) (by decide)
  have z2 : w.heap.size ≤ w2.heap.size := Nat.le_trans z1 k2.size
  clear o2 r2 k2 R1 HB1 O1
  generalize rlist bs 5 (m, sm).2 = t at *
  obtain ⟨t, st⟩ := t
  obtain ⟨nt, hnt⟩ : ∃ nt, t.length = nt := ⟨_, rfl⟩
  rw [show (t, st).1.length = nt from hnt] at O2 ⊢
  have HNT := hide hnt
  clear hnt
  have c0 : w2.cell? ⟨w.heap.size, 0, none⟩ = some (.slice none 0 0) := (cell_of_block hb2).trans rfl
  have c1 : w2.cell? ⟨w.heap.size, 1, none⟩ = some (.slice none 0 0) := (cell_of_block hb2).trans rfl
  have f2 : ∀ i, w2.frozen? ⟨w.heap.size, i, none⟩ = false := fun i => free_of_block hb2
  have HB2 := hide hb2
  clear hb2
  go_wp2
  obtain ⟨w7, h7⟩ : ∃ w7 : World, w7 = ((w2.setCell ⟨w.heap.size, 0, none⟩ (.slice ao1 nm cap1)).setCell ⟨w.heap.size, 1, none⟩ (.slice ao2 nt cap2)) := ⟨_, rfl⟩
  rw [← h7]
  have q7 : Only w.heap.size [26] w2 w7 ∧ w7.heap[w.heap.size]? = some (.cells #[.slice ao1 nm cap1, .slice ao2 nt cap2] 26 (0, 0)) := by
    rw [h7]
    exact set_one (set_one ⟨Only.refl _ _ _, unhide HB2⟩ (Nat.le_refl _) (by simp) 0 _) (Nat.le_refl _) (by simp) 1 _
  clear h7 c0 c1 f2 HB2
  have c0 : w7.cell? ⟨w.heap.size, 0, none⟩ = some (.slice ao1 nm cap1) := (cell_of_block q7.2).trans rfl
  have c1 : w7.cell? ⟨w.heap.size, 1, none⟩ = some (.slice ao2 nt cap2) := (cell_of_block q7.2).trans rfl
  have r7 := (unhide R2).1.own q7.1 (by decide) (by decide)
  have k7 := (unhide R2).2.2.2.fresh q7.1.below hbase
  refine bodyPost_ret (v := .agg #[.slice ao1 nm cap1, .slice ao2 nt cap2]) (by simp [results, Tryz.results308, go_sem, c0, c1]) rfl ?_
  rw [unhide E1]
  simp only [unhide HNM, unhide HNT]
  exact ⟨ao1, cap1, ao2, cap2, rfl, own_wide (own_only (unhide O1') q7.1 (by decide)) z0, own_wide (own_only (unhide O2) q7.1 (by decide)) z1, (unhide H0).next r7 k7, k7⟩

/-- what entries' loop makes in k rounds. -/
def rentriesN (bs : List Nat) : Nat → (Nat × Nat) → List Ent × (Nat × Nat)
  | 0, s => ([], s)
  | k + 1, s => ((rentriesN bs k s).1 ++ [(rentry bs (rentriesN bs k s).2).1], (rentry bs (rentriesN bs k s).2).2)
theorem rentriesN_len (bs : List Nat) (k : Nat) (s : Nat × Nat) : (rentriesN bs k s).1.length = k := by
  induction k with
  | zero => rfl
  | succ k ih => simp [rentriesN, ih]
/-- what entries answers, and does. -/
def rentries (bs : List Nat) (s : Nat × Nat) : List Ent × (Nat × Nat) := rentriesN bs (rrule bs 6 s).1 (rrule bs 6 s).2
/-- the lists of entries, each a row of the call's own. -/
def Mems (base : Nat) (w : World) (xs : List Ent) (vs : List Value) : Prop := xs.length = vs.length ∧ ∀ (i : Nat) (x : Ent) (v : Value), xs[i]? = some x → vs[i]? = some v → w.ownsRow base 3 1 v x.members.length (i64s x.members)
def ecells (xs : List Ent) (vs : List Value) : List Value := (List.zipWith (fun x v => (Ent.cells x v).toList) xs vs).flatten
theorem Mems.nil (base : Nat) (w : World) : Mems base w [] [] := ⟨rfl, fun i x v hx _ => by simp at hx⟩
theorem Mems.only {base b : Nat} {ts : List TypeId} {w w' : World} {xs : List Ent} {vs : List Value} (h : Mems base w xs vs) (hk : Only b ts w w') (ht : 3 ∉ ts) : Mems base w' xs vs :=
  ⟨h.1, fun i x v hx hv => own_only (h.2 i x v hx hv) hk ht⟩
theorem Mems.wide {base b : Nat} {w : World} {xs : List Ent} {vs : List Value} (h : Mems base w xs vs) (hb : b ≤ base) : Mems b w xs vs :=
  ⟨h.1, fun i x v hx hv => own_wide (h.2 i x v hx hv) hb⟩
theorem Mems.snoc {base : Nat} {w : World} {xs : List Ent} {vs : List Value} {x : Ent} {v : Value} (h : Mems base w xs vs) (ho : w.ownsRow base 3 1 v x.members.length (i64s x.members)) : Mems base w (xs ++ [x]) (vs ++ [v]) := by
  refine ⟨by simp [h.1], fun i y u hy hu => ?_⟩
  by_cases hi : i < xs.length
  · rw [List.getElem?_append_left hi] at hy
    rw [List.getElem?_append_left (by rw [← h.1]; exact hi)] at hu
    exact h.2 i y u hy hu
  · rw [List.getElem?_append_right (by omega)] at hy
    rw [List.getElem?_append_right (by rw [← h.1]; omega)] at hu
    have h0 : i - xs.length = 0 := by
      rcases Nat.eq_zero_or_pos (i - xs.length) with h | h
      · exact h
      · rw [List.getElem?_eq_none (by simp; omega)] at hy; cases hy
    rw [h0] at hy
    rw [← h.1, h0] at hu
    simp only [List.getElem?_cons_zero, Option.some.injEq] at hy hu
    subst hy; subst hu
    exact ho
theorem ecells_snoc {xs : List Ent} {vs : List Value} (h : xs.length = vs.length) (x : Ent) (v : Value) : ecells (xs ++ [x]) (vs ++ [v]) = ecells xs vs ++ (x.cells v).toList := by
  unfold ecells
  rw [List.zipWith_append h]; simp
theorem ent_one (x : Ent) (ao : Option Addr) (n cap : Nat) : ∀ u ∈ (x.cells (.slice ao n cap)).toList, u.oneCell' = true := by
  intro u hu
  simp only [Ent.cells, List.mem_cons, List.not_mem_nil, or_false] at hu
  rcases hu with rfl | rfl | rfl | rfl | rfl | rfl <;> rfl
theorem Tryz.info_entry : (Tryz.prog.info? 43).map (fun i => (i.zero, i.size, i.bytes)) = some (some (.agg #[.int .i64 0, .int .i64 0, .int .i64 0, .string ⟨#[]⟩, .slice none 0 0, .int .i64 0]), 6, 72) := by kernel_rfl

set_option maxRecDepth 20000 in
set_option maxHeartbeats 2000000 in
theorem rg_entries {base : Nat} {wz w : World} {p : Nat} {ao : Option Addr} {n cap : Nat} {bs : List Nat} {s : Nat × Nat} (h : Rg base wz w p ao n cap bs s) :
    Calls Tryz.prog 307 #[.pointer (some ⟨p, 0, none⟩)] w fun e w' => ∃ v vs, e = .returned v ∧ w'.ownsRow w.heap.size 43 6 v (rentries bs s).1.length (ecells (rentries bs s).1 vs) ∧ Mems w.heap.size w' (rentries bs s).1 vs ∧ Rg base wz w' p ao n cap bs (rentries bs s).2 ∧ Only base [357] w w' := by
  have U := hide (rg_rule 6 (by decide) (Rg.start h.1 h.2.1 h.2.2.1))
  have hbase := h.2.2.1
  have hk := rrule_le bs 6 s
  have E1 : Hid (rentries bs s = rentriesN bs (rrule bs 6 s).1 (rrule bs 6 s).2) := by show _ = _; rfl
  have H0 := hide h
  clear h
  generalize rrule bs 6 s = r at *
  obtain ⟨k, t⟩ := r
  obtain ⟨i0, hi, hz0, hz1, hz2⟩ := info_parts Tryz.info_entry
  go_enter Tryz.func307, Tryz.ntmps307
  go_wp2_with fail
  refine (unhide U).mono ?_
  rintro e w1 ⟨rfl, r1, k1⟩
  have R1 := hide r1
  have s1 : w.heap.size ≤ w1.heap.size := k1.size
  clear U r1 k1
  go_wp2_with fail
  go_loopg [3, 6] k (fun g lv iv wr => ∃ (j : Nat) (vs : List Value), j + g = k ∧ iv = .int .i64 (j : Int) ∧ wr.ownsRow w.heap.size 43 6 lv j (ecells (rentriesN bs j t).1 vs) ∧ Mems w.heap.size wr (rentriesN bs j t).1 vs ∧ Rg base w wr p ao n cap bs (rentriesN bs j t).2)
  case atStart => exact ⟨0, [], by omega, rfl, World.ownsRow_nil _ _ _ _, Mems.nil _ _, unhide R1⟩
  case round =>
    obtain ⟨j, vs, hj, rfl, ho, hm, hr⟩ := hrel
    have HJ := hide hj
    have HO := hide ho
    have HM := hide hm
    have HR := hide hr
    have sr : w.heap.size ≤ wr.heap.size := hr.2.2.2.size
    have hjk : j ≤ k := by omega
    clear hj ho hm hr
    by_cases hlt : j < k
    · have I := hide (rg_entry (unhide HR))
      have ER : Hid (rentriesN bs (j + 1) t = ((rentriesN bs j t).1 ++ [(rentry bs (rentriesN bs j t).2).1], (rentry bs (rentriesN bs j t).2).2)) := by show _ = _; rfl
      generalize rentry bs (rentriesN bs j t).2 = r at *
      generalize (rentriesN bs j t).1 = xs at *
      obtain ⟨x, u⟩ := r
      go_wp2_with fail
      refine (unhide I).mono ?_
      rintro e w2 ⟨v2, rfl, o2, r2, k2⟩
      obtain ⟨ao2, cap2, rfl⟩ := row_slice o2
      have O2 := hide (own_only (unhide HO) k2 (by decide))
      have M2 := hide (((unhide HM).only k2 (by decide)).snoc (own_wide o2 sr))
      have R2 := hide r2
      have s2 : w.heap.size ≤ w2.heap.size := Nat.le_trans sr k2.size
      have EC := hide (ecells_snoc (unhide HM).1 x (.slice ao2 x.members.length cap2))
      have ON := hide (ent_one x ao2 x.members.length cap2)
      simp only [Ent.cells] at ON EC
      show _
      clear I r2 k2 o2 HO HM HR
      simp only [Ent.cells]
      generalize x.members.length = nx at *
      go_wp2_with (at_builtin; refine wpList_append_own _ rfl (.tmp 8) (.tmp 11) 48 rfl w.heap.size 43 i0 _ 6 72 Tryz.underlying48 hi hz0 hz1 hz2 rfl (by decide) _ _ _ rfl ((unhide O2).alloc _) ⟨w2.heap.size, 0, none⟩ 1 1 _ rfl rfl news_at (unhide ON) (by unfold maxLen; omega) (by omega) (by simp; omega) ?_)
      intro v3 w3 own3 grow3 _
      have p3 := (Only.refl w.heap.size [43] w2).alloc s2 (.cells #[.int .i64 x.kind, .int .i64 x.client, .int .i64 x.seq, .string (str x.data), .slice ao2 nx cap2, .int .i64 x.to'] 43)
      have p4 := p3.own ((unhide O2).alloc _) grow3 (by simp; omega) (Nat.le_refl _) (by simp)
      have k4 := (unhide R2).2.2.2.fresh p4.below hbase
      have R3 : Hid (Rg base w w3 p ao n cap bs u) := ⟨(unhide R2).1.own p4 (by decide) (by decide), (unhide H0).2.1.only k4, Nat.le_trans hbase k4.size, k4⟩
      have O3 := hide own3
      have M3 := hide ((unhide M2).only p4 (by decide))
      clear own3 grow3 p3 p4 k4 R2 O2 M2
      go_wp2
      go_roundg (k - (j + 1))
      case measure => have := unhide HJ; omega
      case rel =>
        refine ⟨j + 1, _, by omega, by go_num, ?_, by rw [unhide ER]; exact unhide M3, by rw [unhide ER]; exact unhide R3⟩
        rw [unhide ER, unhide EC]
        exact unhide O3
    · have ej : j = k := by omega
      subst ej
      go_wp2
      go_ret
      have hr := unhide HR
      refine ⟨_, vs, rfl, ?_, ?_, ?_, hr.2.2.2⟩
      · rw [unhide E1]; simp only [rentriesN_len]; exact unhide HO
      · rw [unhide E1]; exact unhide HM
      · rw [unhide E1]; exact (unhide H0).next hr.1 hr.2.2.2
end Go.Proofs.YtjplhiflemmkfaaGreatDoor
namespace Go.Proofs.YtjplhiflemmkfaaGreatDoor
open Go.RowKit

/-- a message, plainly. -/
structure Mes where
  src : Int
  to' : Int
  gen : Int
  kind : Int
  term : Int
  index : Int
  last : Int
  commit : Int
  yes : Bool
  terms : List Int
  ents : List Ent
  cold : List Int
  cnew : List Int
/-- what msg answers, and does. -/
def rmsg (bs : List Nat) (s : Nat × Nat) : Mes × (Nat × Nat) :=
  let a1 := rtake bs.length 8 s
  let a2 := rtake bs.length 8 a1
  let a3 := rtake bs.length 8 a2
  let k := rrule bs 2 a3
  let a5 := rtake bs.length 8 k.2
  let a6 := rtake bs.length 8 a5
  let a7 := rtake bs.length 8 a6
  let a8 := rtake bs.length 8 a7
  let y := rrule bs 3 a8
  let l := rlist bs 6 y.2
  let e := rentries bs l.2
  let c := rconfig bs e.2
  (⟨rint bs s, rint bs a1, rint bs a2, k.1, rint bs k.2, rint bs a5, rint bs a6, rint bs a7, ((y.1 : Nat) : Int) == 1, l.1, e.1, c.1.1, c.1.2⟩, c.2)
/-- the cells of a message. -/
def Mes.cells (x : Mes) (v e o n : Value) : Array Value := #[.int .i64 x.src, .int .i64 x.to', .int .i64 x.gen, .int .i64 x.kind, .int .i64 x.term, .int .i64 x.index, .int .i64 x.last, .int .i64 x.commit, .bool x.yes, v, e, o, n]
/-- the lists of a message. -/
def Mes.rows (base : Nat) (w : World) (x : Mes) (v e o n : Value) (vs : List Value) : Prop :=
  w.ownsRow base 3 1 v x.terms.length (i64s x.terms) ∧ w.ownsRow base 43 6 e x.ents.length (ecells x.ents vs) ∧ Mems base w x.ents vs ∧ w.ownsRow base 3 1 o x.cold.length (i64s x.cold) ∧ w.ownsRow base 3 1 n x.cnew.length (i64s x.cnew)

set_option maxRecDepth 20000 in
set_option maxHeartbeats 4000000 in
theorem rg_msg {base : Nat} {wz w : World} {p : Nat} {ao : Option Addr} {n cap : Nat} {bs : List Nat} {s : Nat × Nat} (h : Rg base wz w p ao n cap bs s) :
    Calls Tryz.prog 272 #[.pointer (some ⟨p, 0, none⟩)] w fun e w' => ∃ v1 v2 v3 v4 vs, e = .returned (.agg ((rmsg bs s).1.cells v1 v2 v3 v4)) ∧ (rmsg bs s).1.rows w.heap.size w' v1 v2 v3 v4 vs ∧ Rg base wz w' p ao n cap bs (rmsg bs s).2 ∧ Only base [357] w w' := by
  have E1 : Hid (rmsg bs s = (⟨rint bs (s), rint bs (rtake n 8 (s)), rint bs (rtake n 8 (rtake n 8 (s))), (rrule bs 2 (rtake n 8 (rtake n 8 (rtake n 8 (s))))).1, rint bs ((rrule bs 2 (rtake n 8 (rtake n 8 (rtake n 8 (s))))).2), rint bs (rtake n 8 ((rrule bs 2 (rtake n 8 (rtake n 8 (rtake n 8 (s))))).2)), rint bs (rtake n 8 (rtake n 8 ((rrule bs 2 (rtake n 8 (rtake n 8 (rtake n 8 (s))))).2))), rint bs (rtake n 8 (rtake n 8 (rtake n 8 ((rrule bs 2 (rtake n 8 (rtake n 8 (rtake n 8 (s))))).2)))), (((rrule bs 3 (rtake n 8 (rtake n 8 (rtake n 8 (rtake n 8 ((rrule bs 2 (rtake n 8 (rtake n 8 (rtake n 8 (s))))).2)))))).1 : Nat) : Int) == 1, (rlist bs 6 ((rrule bs 3 (rtake n 8 (rtake n 8 (rtake n 8 (rtake n 8 ((rrule bs 2 (rtake n 8 (rtake n 8 (rtake n 8 (s))))).2)))))).2)).1, (rentries bs ((rlist bs 6 ((rrule bs 3 (rtake n 8 (rtake n 8 (rtake n 8 (rtake n 8 ((rrule bs 2 (rtake n 8 (rtake n 8 (rtake n 8 (s))))).2)))))).2)).2)).1, (rconfig bs ((rentries bs ((rlist bs 6 ((rrule bs 3 (rtake n 8 (rtake n 8 (rtake n 8 (rtake n 8 ((rrule bs 2 (rtake n 8 (rtake n 8 (rtake n 8 (s))))).2)))))).2)).2)).2)).1.1, (rconfig bs ((rentries bs ((rlist bs 6 ((rrule bs 3 (rtake n 8 (rtake n 8 (rtake n 8 (rtake n 8 ((rrule bs 2 (rtake n 8 (rtake n 8 (rtake n 8 (s))))).2)))))).2)).2)).2)).1.2⟩, (rconfig bs ((rentries bs ((rlist bs 6 ((rrule bs 3 (rtake n 8 (rtake n 8 (rtake n 8 (rtake n 8 ((rrule bs 2 (rtake n 8 (rtake n 8 (rtake n 8 (s))))).2)))))).2)).2)).2)).2)) := by show _ = _; unfold rmsg; rw [h.2.1.len]
  obtain ⟨g0, hg0⟩ : ∃ g0 : World, g0 = w.alloc (.cells #[.int .i64 0, .int .i64 0, .int .i64 0, .int .i64 0, .int .i64 0, .int .i64 0, .int .i64 0, .int .i64 0, .bool false, .slice none 0 0, .slice none 0 0, .slice none 0 0, .slice none 0 0] 50) := ⟨_, rfl⟩
  have hbase := h.2.2.1
  have H0 := hide h
  have R0 : Hid (Rg base w g0 p ao n cap bs s) := by subst hg0; exact (Rg.start h.1 h.2.1 h.2.2.1).alloc _
  have HB0 : Hid (g0.heap[w.heap.size]? = some (.cells #[.int .i64 0, .int .i64 0, .int .i64 0, .int .i64 0, .int .i64 0, .int .i64 0, .int .i64 0, .int .i64 0, .bool false, .slice none 0 0, .slice none 0 0, .slice none 0 0, .slice none 0 0] 50 (0, 0))) := by subst hg0; exact heap_alloc_new _ _
  have HE := hide hg0
  have z0 : w.heap.size ≤ g0.heap.size := by subst hg0; simp
  clear h hg0
  go_enter Tryz.func272, Tryz.ntmps272
  go_wp2_with fail
  rw [← unhide HE]
  clear HE
  refine (rg_int (unhide R0)).mono ?_
  rintro e w1 ⟨rfl, r, k⟩
  have R1 := hide r
  have HB1 := hide (k.block (unhide HB0) (by decide))
  have z1 : w.heap.size ≤ w1.heap.size := Nat.le_trans z0 k.size
  clear r k R0 HB0
  generalize rtake n 8 s = s1 at *
  generalize rint bs s = f0 at *
  go_wp2_with fail
  refine (rg_int (unhide R1)).mono ?_
  rintro e w2 ⟨rfl, r, k⟩
  have R2 := hide r
  have HB2 := hide (k.block (unhide HB1) (by decide))
  have z2 : w.heap.size ≤ w2.heap.size := Nat.le_trans z1 k.size
  clear r k R1 HB1
  generalize rtake n 8 s1 = s2 at *
  generalize rint bs s1 = f1 at *
  go_wp2_with fail
  refine (rg_int (unhide R2)).mono ?_
  rintro e w3 ⟨rfl, r, k⟩
  have R3 := hide r
  have HB3 := hide (k.block (unhide HB2) (by decide))
  have z3 : w.heap.size ≤ w3.heap.size := Nat.le_trans z2 k.size
  clear r k R2 HB2
  generalize rtake n 8 s2 = s3 at *
  generalize rint bs s2 = f2 at *
  go_wp2_with fail
  refine (rg_rule 2 (by decide) (unhide R3)).mono ?_
  rintro e w4 ⟨rfl, r, k⟩
  have R4 := hide r
  have HB4 := hide (k.block (unhide HB3) (by decide))
  have z4 : w.heap.size ≤ w4.heap.size := Nat.le_trans z3 k.size
  clear r k R3 HB3
  generalize rrule bs 2 s3 = g3 at *
  obtain ⟨f3, s4⟩ := g3
  go_wp2_with fail
  refine (rg_int (unhide R4)).mono ?_
  rintro e w5 ⟨rfl, r, k⟩
  have R5 := hide r
  have HB5 := hide (k.block (unhide HB4) (by decide))
  have z5 : w.heap.size ≤ w5.heap.size := Nat.le_trans z4 k.size
  clear r k R4 HB4
  generalize rtake n 8 (f3, s4).2 = s5 at *
  generalize rint bs (f3, s4).2 = f4 at *
  go_wp2_with fail
  refine (rg_int (unhide R5)).mono ?_
  rintro e w6 ⟨rfl, r, k⟩
  have R6 := hide r
  have HB6 := hide (k.block (unhide HB5) (by decide))
  have z6 : w.heap.size ≤ w6.heap.size := Nat.le_trans z5 k.size
  clear r k R5 HB5
  generalize rtake n 8 s5 = s6 at *
  generalize rint bs s5 = f5 at *
  go_wp2_with fail
  refine (rg_int (unhide R6)).mono ?_
  rintro e w7 ⟨rfl, r, k⟩
  have R7 := hide r
  have HB7 := hide (k.block (unhide HB6) (by decide))
  have z7 : w.heap.size ≤ w7.heap.size := Nat.le_trans z6 k.size
  clear r k R6 HB6
  generalize rtake n 8 s6 = s7 at *
  generalize rint bs s6 = f6 at *
  go_wp2_with fail
  refine (rg_int (unhide R7)).mono ?_
  rintro e w8 ⟨rfl, r, k⟩
  have R8 := hide r
  have HB8 := hide (k.block (unhide HB7) (by decide))
  have z8 : w.heap.size ≤ w8.heap.size := Nat.le_trans z7 k.size
  clear r k R7 HB7
  generalize rtake n 8 s7 = s8 at *
  generalize rint bs s7 = f7 at *
  go_wp2_with fail
  refine (rg_rule 3 (by decide) (unhide R8)).mono ?_
  rintro e w9 ⟨rfl, r, k⟩
  have R9 := hide r
  have HB9 := hide (k.block (unhide HB8) (by decide))
  have z9 : w.heap.size ≤ w9.heap.size := Nat.le_trans z8 k.size
  clear r k R8 HB8
  generalize rrule bs 3 s8 = g8 at *
  obtain ⟨f8, s9⟩ := g8
  go_wp2_with fail
  refine (rg_list 6 (by decide) (unhide R9)).mono ?_
  rintro e w10 ⟨v, rfl, o, r, k⟩
  obtain ⟨aot, capt, rfl⟩ := row_slice o
  have OT10 := hide (own_wide o z9)
  have R10 := hide r
  have HB10 := hide (k.block (unhide HB9) (by decide))
  have z10 : w.heap.size ≤ w10.heap.size := Nat.le_trans z9 k.size
  clear r k R9 HB9 o
  generalize rlist bs 6 (f8, s9).2 = g9 at *
  obtain ⟨f9, s10⟩ := g9
  obtain ⟨nt, hnt⟩ : ∃ nt, f9.length = nt := ⟨_, rfl⟩
  rw [show (f9, s10).1.length = nt from hnt] at OT10 ⊢
  have HNT := hide hnt
  clear hnt
  go_wp2_with fail
  refine (rg_entries (unhide R10)).mono ?_
  rintro e w11 ⟨v, vs, rfl, o, om, r, k⟩
  obtain ⟨aoe, cape, rfl⟩ := row_slice o
  have OE11 := hide (own_wide o z10)
  have OM11 := hide (om.wide z10)
  have R11 := hide r
  have HB11 := hide (k.block (unhide HB10) (by decide))
  have z11 : w.heap.size ≤ w11.heap.size := Nat.le_trans z10 k.size
  have OT11 := hide (own_only (unhide OT10) k (by decide))
  clear r k R10 HB10 OT10 o om
  generalize rentries bs (f9, s10).2 = g10 at *
  obtain ⟨f10, s11⟩ := g10
  obtain ⟨ne, hne⟩ : ∃ ne, f10.length = ne := ⟨_, rfl⟩
  rw [show (f10, s11).1.length = ne from hne] at OE11 ⊢
  have HNE := hide hne
  clear hne
  go_wp2_with fail
  refine (rg_config (unhide R11)).mono ?_
  rintro e w12 ⟨ao3, cap3, ao4, cap4, rfl, oo, on, r, k⟩
  have OO12 := hide (own_wide oo z11)
  have ON12 := hide (own_wide on z11)
  have R12 := hide r
  have HB12 := hide (k.block (unhide HB11) (by decide))
  have z12 : w.heap.size ≤ w12.heap.size := Nat.le_trans z11 k.size
  have OT12 := hide (own_only (unhide OT11) k (by decide))
  have OE12 := hide (own_only (unhide OE11) k (by decide))
  have OM12 := hide ((unhide OM11).only k (by decide))
  clear r k R11 HB11 OT11 OE11 OM11 oo on
  generalize rconfig bs (f10, s11).2 = g11 at *
  obtain ⟨⟨fo, fn⟩, s12⟩ := g11
  obtain ⟨no, hno⟩ : ∃ no, fo.length = no := ⟨_, rfl⟩
  obtain ⟨nn, hnn⟩ : ∃ nn, fn.length = nn := ⟨_, rfl⟩
  rw [show ((fo, fn), s12).1.1.length = no from hno] at OO12 ⊢
  rw [show ((fo, fn), s12).1.2.length = nn from hnn] at ON12 ⊢
  have HNO := hide hno
  have HNN := hide hnn
  clear hno hnn
  have hb := unhide HB12
  have c0 : w12.cell? ⟨w.heap.size, 0, none⟩ = some (.int .i64 0) := (cell_of_block hb).trans rfl
  have c1 : w12.cell? ⟨w.heap.size, 1, none⟩ = some (.int .i64 0) := (cell_of_block hb).trans rfl
  have c2 : w12.cell? ⟨w.heap.size, 2, none⟩ = some (.int .i64 0) := (cell_of_block hb).trans rfl
  have c3 : w12.cell? ⟨w.heap.size, 3, none⟩ = some (.int .i64 0) := (cell_of_block hb).trans rfl
  have c4 : w12.cell? ⟨w.heap.size, 4, none⟩ = some (.int .i64 0) := (cell_of_block hb).trans rfl
  have c5 : w12.cell? ⟨w.heap.size, 5, none⟩ = some (.int .i64 0) := (cell_of_block hb).trans rfl
  have c6 : w12.cell? ⟨w.heap.size, 6, none⟩ = some (.int .i64 0) := (cell_of_block hb).trans rfl
  have c7 : w12.cell? ⟨w.heap.size, 7, none⟩ = some (.int .i64 0) := (cell_of_block hb).trans rfl
  have c8 : w12.cell? ⟨w.heap.size, 8, none⟩ = some (.bool false) := (cell_of_block hb).trans rfl
  have c9 : w12.cell? ⟨w.heap.size, 9, none⟩ = some (.slice none 0 0) := (cell_of_block hb).trans rfl
  have c10 : w12.cell? ⟨w.heap.size, 10, none⟩ = some (.slice none 0 0) := (cell_of_block hb).trans rfl
  have c11 : w12.cell? ⟨w.heap.size, 11, none⟩ = some (.slice none 0 0) := (cell_of_block hb).trans rfl
  have c12 : w12.cell? ⟨w.heap.size, 12, none⟩ = some (.slice none 0 0) := (cell_of_block hb).trans rfl
  have f : ∀ i, w12.frozen? ⟨w.heap.size, i, none⟩ = false := fun i => free_of_block hb
  clear hb
  go_wp2
  clear c0 c1 c2 c3 c4 c5 c6 c7 c8 c9 c10 c11 c12 f
  obtain ⟨x0, hx⟩ : ∃ x : World, x = w12.setCell ⟨w.heap.size, 0, none⟩ (.int .i64 f0) := ⟨_, rfl⟩
  rw [← hx]
  have q0 : Only w.heap.size [50] w12 x0 ∧ x0.heap[w.heap.size]? = some (.cells #[.int .i64 f0, .int .i64 0, .int .i64 0, .int .i64 0, .int .i64 0, .int .i64 0, .int .i64 0, .int .i64 0, .bool false, .slice none 0 0, .slice none 0 0, .slice none 0 0, .slice none 0 0] 50 (0, 0)) := by rw [hx]; exact set_one ⟨Only.refl _ _ _, unhide HB12⟩ (Nat.le_refl _) (by simp) 0 _
  clear hx
  obtain ⟨x1, hx⟩ : ∃ x : World, x = x0.setCell ⟨w.heap.size, 1, none⟩ (.int .i64 f1) := ⟨_, rfl⟩
  rw [← hx]
  have q1 : Only w.heap.size [50] w12 x1 ∧ x1.heap[w.heap.size]? = some (.cells #[.int .i64 f0, .int .i64 f1, .int .i64 0, .int .i64 0, .int .i64 0, .int .i64 0, .int .i64 0, .int .i64 0, .bool false, .slice none 0 0, .slice none 0 0, .slice none 0 0, .slice none 0 0] 50 (0, 0)) := by rw [hx]; exact set_one q0 (Nat.le_refl _) (by simp) 1 _
  clear hx q0
  obtain ⟨x2, hx⟩ : ∃ x : World, x = x1.setCell ⟨w.heap.size, 2, none⟩ (.int .i64 f2) := ⟨_, rfl⟩
  rw [← hx]
  have q2 : Only w.heap.size [50] w12 x2 ∧ x2.heap[w.heap.size]? = some (.cells #[.int .i64 f0, .int .i64 f1, .int .i64 f2, .int .i64 0, .int .i64 0, .int .i64 0, .int .i64 0, .int .i64 0, .bool false, .slice none 0 0, .slice none 0 0, .slice none 0 0, .slice none 0 0] 50 (0, 0)) := by rw [hx]; exact set_one q1 (Nat.le_refl _) (by simp) 2 _
  clear hx q1
  obtain ⟨x3, hx⟩ : ∃ x : World, x = x2.setCell ⟨w.heap.size, 3, none⟩ (.int .i64 (f3 : Int)) := ⟨_, rfl⟩
  rw [← hx]
  have q3 : Only w.heap.size [50] w12 x3 ∧ x3.heap[w.heap.size]? = some (.cells #[.int .i64 f0, .int .i64 f1, .int .i64 f2, .int .i64 (f3 : Int), .int .i64 0, .int .i64 0, .int .i64 0, .int .i64 0, .bool false, .slice none 0 0, .slice none 0 0, .slice none 0 0, .slice none 0 0] 50 (0, 0)) := by rw [hx]; exact set_one q2 (Nat.le_refl _) (by simp) 3 _
  clear hx q2
  obtain ⟨x4, hx⟩ : ∃ x : World, x = x3.setCell ⟨w.heap.size, 4, none⟩ (.int .i64 f4) := ⟨_, rfl⟩
  rw [← hx]
  have q4 : Only w.heap.size [50] w12 x4 ∧ x4.heap[w.heap.size]? = some (.cells #[.int .i64 f0, .int .i64 f1, .int .i64 f2, .int .i64 (f3 : Int), .int .i64 f4, .int .i64 0, .int .i64 0, .int .i64 0, .bool false, .slice none 0 0, .slice none 0 0, .slice none 0 0, .slice none 0 0] 50 (0, 0)) := by rw [hx]; exact set_one q3 (Nat.le_refl _) (by simp) 4 _
  clear hx q3
  obtain ⟨x5, hx⟩ : ∃ x : World, x = x4.setCell ⟨w.heap.size, 5, none⟩ (.int .i64 f5) := ⟨_, rfl⟩
  rw [← hx]
  have q5 : Only w.heap.size [50] w12 x5 ∧ x5.heap[w.heap.size]? = some (.cells #[.int .i64 f0, .int .i64 f1, .int .i64 f2, .int .i64 (f3 : Int), .int .i64 f4, .int .i64 f5, .int .i64 0, .int .i64 0, .bool false, .slice none 0 0, .slice none 0 0, .slice none 0 0, .slice none 0 0] 50 (0, 0)) := by rw [hx]; exact set_one q4 (Nat.le_refl _) (by simp) 5 _
  clear hx q4
  obtain ⟨x6, hx⟩ : ∃ x : World, x = x5.setCell ⟨w.heap.size, 6, none⟩ (.int .i64 f6) := ⟨_, rfl⟩
  rw [← hx]
  have q6 : Only w.heap.size [50] w12 x6 ∧ x6.heap[w.heap.size]? = some (.cells #[.int .i64 f0, .int .i64 f1, .int .i64 f2, .int .i64 (f3 : Int), .int .i64 f4, .int .i64 f5, .int .i64 f6, .int .i64 0, .bool false, .slice none 0 0, .slice none 0 0, .slice none 0 0, .slice none 0 0] 50 (0, 0)) := by rw [hx]; exact set_one q5 (Nat.le_refl _) (by simp) 6 _
  clear hx q5
  obtain ⟨x7, hx⟩ : ∃ x : World, x = x6.setCell ⟨w.heap.size, 7, none⟩ (.int .i64 f7) := ⟨_, rfl⟩
  rw [← hx]
  have qq7 : Only w.heap.size [50] w12 x7 ∧ x7.heap[w.heap.size]? = some (.cells #[.int .i64 f0, .int .i64 f1, .int .i64 f2, .int .i64 (f3 : Int), .int .i64 f4, .int .i64 f5, .int .i64 f6, .int .i64 f7, .bool false, .slice none 0 0, .slice none 0 0, .slice none 0 0, .slice none 0 0] 50 (0, 0)) := by rw [hx]; exact set_one q6 (Nat.le_refl _) (by simp) 7 _
  clear hx q6
  obtain ⟨x8, hx⟩ : ∃ x : World, x = x7.setCell ⟨w.heap.size, 8, none⟩ (.bool ((f8 : Int) == 1)) := ⟨_, rfl⟩
  rw [← hx]
  have q8 : Only w.heap.size [50] w12 x8 ∧ x8.heap[w.heap.size]? = some (.cells #[.int .i64 f0, .int .i64 f1, .int .i64 f2, .int .i64 (f3 : Int), .int .i64 f4, .int .i64 f5, .int .i64 f6, .int .i64 f7, .bool ((f8 : Int) == 1), .slice none 0 0, .slice none 0 0, .slice none 0 0, .slice none 0 0] 50 (0, 0)) := by rw [hx]; exact set_one qq7 (Nat.le_refl _) (by simp) 8 _
  clear hx qq7
  obtain ⟨x9, hx⟩ : ∃ x : World, x = x8.setCell ⟨w.heap.size, 9, none⟩ (.slice aot nt capt) := ⟨_, rfl⟩
  rw [← hx]
  have q9 : Only w.heap.size [50] w12 x9 ∧ x9.heap[w.heap.size]? = some (.cells #[.int .i64 f0, .int .i64 f1, .int .i64 f2, .int .i64 (f3 : Int), .int .i64 f4, .int .i64 f5, .int .i64 f6, .int .i64 f7, .bool ((f8 : Int) == 1), .slice aot nt capt, .slice none 0 0, .slice none 0 0, .slice none 0 0] 50 (0, 0)) := by rw [hx]; exact set_one q8 (Nat.le_refl _) (by simp) 9 _
  clear hx q8
  obtain ⟨x10, hx⟩ : ∃ x : World, x = x9.setCell ⟨w.heap.size, 10, none⟩ (.slice aoe ne cape) := ⟨_, rfl⟩
  rw [← hx]
  have q10 : Only w.heap.size [50] w12 x10 ∧ x10.heap[w.heap.size]? = some (.cells #[.int .i64 f0, .int .i64 f1, .int .i64 f2, .int .i64 (f3 : Int), .int .i64 f4, .int .i64 f5, .int .i64 f6, .int .i64 f7, .bool ((f8 : Int) == 1), .slice aot nt capt, .slice aoe ne cape, .slice none 0 0, .slice none 0 0] 50 (0, 0)) := by rw [hx]; exact set_one q9 (Nat.le_refl _) (by simp) 10 _
  clear hx q9
  obtain ⟨x11, hx⟩ : ∃ x : World, x = x10.setCell ⟨w.heap.size, 11, none⟩ (.slice ao3 no cap3) := ⟨_, rfl⟩
  rw [← hx]
  have q11 : Only w.heap.size [50] w12 x11 ∧ x11.heap[w.heap.size]? = some (.cells #[.int .i64 f0, .int .i64 f1, .int .i64 f2, .int .i64 (f3 : Int), .int .i64 f4, .int .i64 f5, .int .i64 f6, .int .i64 f7, .bool ((f8 : Int) == 1), .slice aot nt capt, .slice aoe ne cape, .slice ao3 no cap3, .slice none 0 0] 50 (0, 0)) := by rw [hx]; exact set_one q10 (Nat.le_refl _) (by simp) 11 _
  clear hx q10
  obtain ⟨wf, hx⟩ : ∃ x : World, x = x11.setCell ⟨w.heap.size, 12, none⟩ (.slice ao4 nn cap4) := ⟨_, rfl⟩
  rw [← hx]
  have q7 : Only w.heap.size [50] w12 wf ∧ wf.heap[w.heap.size]? = some (.cells #[.int .i64 f0, .int .i64 f1, .int .i64 f2, .int .i64 (f3 : Int), .int .i64 f4, .int .i64 f5, .int .i64 f6, .int .i64 f7, .bool ((f8 : Int) == 1), .slice aot nt capt, .slice aoe ne cape, .slice ao3 no cap3, .slice ao4 nn cap4] 50 (0, 0)) := by rw [hx]; exact set_one q11 (Nat.le_refl _) (by simp) 12 _
  clear hx q11
  clear HB12
  have c0 : wf.cell? ⟨w.heap.size, 0, none⟩ = some (.int .i64 f0) := (cell_of_block q7.2).trans rfl
  have c1 : wf.cell? ⟨w.heap.size, 1, none⟩ = some (.int .i64 f1) := (cell_of_block q7.2).trans rfl
  have c2 : wf.cell? ⟨w.heap.size, 2, none⟩ = some (.int .i64 f2) := (cell_of_block q7.2).trans rfl
  have c3 : wf.cell? ⟨w.heap.size, 3, none⟩ = some (.int .i64 (f3 : Int)) := (cell_of_block q7.2).trans rfl
  have c4 : wf.cell? ⟨w.heap.size, 4, none⟩ = some (.int .i64 f4) := (cell_of_block q7.2).trans rfl
  have c5 : wf.cell? ⟨w.heap.size, 5, none⟩ = some (.int .i64 f5) := (cell_of_block q7.2).trans rfl
  have c6 : wf.cell? ⟨w.heap.size, 6, none⟩ = some (.int .i64 f6) := (cell_of_block q7.2).trans rfl
  have c7 : wf.cell? ⟨w.heap.size, 7, none⟩ = some (.int .i64 f7) := (cell_of_block q7.2).trans rfl
  have c8 : wf.cell? ⟨w.heap.size, 8, none⟩ = some (.bool ((f8 : Int) == 1)) := (cell_of_block q7.2).trans rfl
  have c9 : wf.cell? ⟨w.heap.size, 9, none⟩ = some (.slice aot nt capt) := (cell_of_block q7.2).trans rfl
  have c10 : wf.cell? ⟨w.heap.size, 10, none⟩ = some (.slice aoe ne cape) := (cell_of_block q7.2).trans rfl
  have c11 : wf.cell? ⟨w.heap.size, 11, none⟩ = some (.slice ao3 no cap3) := (cell_of_block q7.2).trans rfl
  have c12 : wf.cell? ⟨w.heap.size, 12, none⟩ = some (.slice ao4 nn cap4) := (cell_of_block q7.2).trans rfl
  have r7 := (unhide R12).1.own q7.1 (by decide) (by decide)
  have k7 := (unhide R12).2.2.2.fresh q7.1.below hbase
  refine bodyPost_ret (v := .agg #[.int .i64 f0, .int .i64 f1, .int .i64 f2, .int .i64 (f3 : Int), .int .i64 f4, .int .i64 f5, .int .i64 f6, .int .i64 f7, .bool ((f8 : Int) == 1), .slice aot nt capt, .slice aoe ne cape, .slice ao3 no cap3, .slice ao4 nn cap4]) (by simp [results, Tryz.results272, go_sem, c0, c1, c2, c3, c4, c5, c6, c7, c8, c9, c10, c11, c12]) rfl ?_
  rw [unhide E1]
  refine ⟨.slice aot nt capt, .slice aoe ne cape, .slice ao3 no cap3, .slice ao4 nn cap4, vs, rfl, ?_, (unhide H0).next r7 k7, k7⟩
  simp only [Mes.rows, unhide HNT, unhide HNE, unhide HNO, unhide HNN]
  exact ⟨own_only (unhide OT12) q7.1 (by decide), own_only (unhide OE12) q7.1 (by decide), (unhide OM12).only q7.1 (by decide), own_only (unhide OO12) q7.1 (by decide), own_only (unhide ON12) q7.1 (by decide)⟩
end Go.Proofs.YtjplhiflemmkfaaGreatDoor
