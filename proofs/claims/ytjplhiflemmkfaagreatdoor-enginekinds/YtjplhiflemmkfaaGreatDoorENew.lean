/- accept.New, paxos.fresh: contracts. paxos.begin, New: contracts. paxos: Commit, Role of a fresh core: contracts. paxos: Sealed of a fresh core: a contract. -/
import Derived.Test.YtjplhiflemmkfaaGreatDoorECheck
import Derived.Maps.OwnSet
import Derived.Maps.Own
import Derived.Deep.RegionHeld3
import Derived.Deep.DrawnRows
namespace Go.Proofs.YtjplhiflemmkfaaGreatDoor
open Go.RowKit Go.Maps

theorem aNew_any (w : World) : Calls Tryz.prog 235 #[] w fun e w' => e = .returned (.pointer (some ⟨w.heap.size + 1, 0, none⟩)) ∧ w' = (w.alloc (.map #[] 0)).alloc (.cells #[.int .i64 0, .map (some w.heap.size)] 267) := by
  have hmm := @run_makeMap Tryz.prog
  go_enter Tryz.func235, Tryz.ntmps235
  go_wp2
  go_ret
  exact ⟨by simp, rfl⟩
/-- what lasts of an instance, fresh: members, a base, an acceptor and a map of which nothing is known. -/
structure PFresh (w : World) (l : Nat) (ms : List Int) (base : Int) : Prop where
  ex : ∃ ao cap a q r, w.heap[l]? = some (.cells #[.slice ao ms.length cap, .int .i64 base, .pointer (some ⟨a, 0, none⟩), .map (some r)] 155 (0, 0)) ∧ IntsR w ao ms ∧ ms.length ≤ cap ∧ cap ≤ maxLen ∧ (ao = none → cap = 0) ∧ w.heap[a]? = some (.cells #[.int .i64 0, .map (some q)] 267 (0, 0)) ∧ w.heap[q]? = some (.map #[] 0) ∧ w.heap[r]? = some (.map #[] 0)
theorem PFresh.below {w w' : World} {l : Nat} {ms : List Int} {base : Int} (h : PFresh w l ms base) (hb : Below w.heap.size w w') : PFresh w' l ms base := by
  obtain ⟨ao, cap, a, q, r, h1, h2, h3, h4, h5, h6, h7, h8⟩ := h
  exact ⟨ao, cap, a, q, r, Below.stay hb h1, h2.below hb, h3, h4, h5, Below.stay hb h6, Below.stay hb h7, Below.stay hb h8⟩

set_option maxRecDepth 20000 in
set_option maxHeartbeats 1000000 in
theorem fresh_any (ao : Option Addr) (n cap : Nat) (ms : List Int) (hn : ms.length = n) (hl : n ≤ 1000000) (base : Int) (w : World) (h : IntsR w ao ms) :
    Calls Tryz.prog 172 #[.slice ao n cap, .int .i64 base] w fun e w' => ∃ l, e = .returned (.pointer (some ⟨l, 0, none⟩)) ∧ PFresh w' l ms base ∧ w.heap.size ≤ l ∧ Below w.heap.size w w' := by
  have CC := hide (clone_any ao n cap ms hn hl w h)
  have HN := hide hn
  have hmm := @run_makeMap Tryz.prog
  clear h hn
  go_enter Tryz.func172, Tryz.ntmps172
  go_wp2_with fail
  refine (unhide CC).mono ?_
  rintro e w1 ⟨v, rfl, i1, b1⟩
  obtain ⟨ao1, cap1, rfl, hfr, hle, hmx⟩ := i1.slice
  have hnul : ao1 = none → cap1 = 0 := by
    intro e0
    subst e0
    rcases i1.2 with ⟨e1, _⟩ | ⟨g, c, cur, e1, _⟩
    · simp only [Value.slice.injEq] at e1; exact e1.2.2
    · simp only [Value.slice.injEq] at e1; cases e1.1
  have B1 := hide b1
  have F1 := hide (show IntsR w1 ao1 ms from hfr.1)
  have L1 := hide (And.intro hle (And.intro hmx hnul))
  clear CC i1 b1 hfr hle hmx hnul
  go_wp2_with fail
  refine (aNew_any w1).mono ?_
  rintro e w2 ⟨rfl, hw2⟩
  have b2 : Below w1.heap.size w1 w2 := by rw [hw2]; exact ((Below.refl _ w1).alloc (Nat.le_refl _) _).alloc (by simp) _
  have xa : w2.heap[w1.heap.size + 1]? = some (.cells #[.int .i64 0, .map (some w1.heap.size)] 267 (0, 0)) := by
    rw [hw2]
    have := box_at (w1.alloc (.map #[] 0)) (.cells #[.int .i64 0, .map (some w1.heap.size)] 267)
    rw [World.size_alloc] at this; exact this
  have xq : w2.heap[w1.heap.size]? = some (.map #[] 0) := by
    rw [hw2]
    exact (Below.heap_alloc _ _ _ (by simp)).trans (box_at w1 (.map #[] 0))
  have X := hide (And.intro xa xq)
  have B2 := hide b2
  clear hw2 b2 xa xq
  go_wp2
  go_ret
  obtain ⟨w3, hw3⟩ : ∃ w3, w2.alloc (.map #[] 0) = w3 := ⟨_, rfl⟩
  have s3 : w3.heap.size = w2.heap.size + 1 := by rw [← hw3]; exact World.size_alloc _ _
  have x3 : w3.heap[w2.heap.size]? = some (.map #[] 0) := by rw [← hw3]; exact box_at w2 (.map #[] 0)
  have b3 : Below w2.heap.size w2 w3 := by rw [← hw3]; exact (Below.refl _ w2).alloc (Nat.le_refl _) _
  rw [hw3]
  obtain ⟨w4, hw4⟩ : ∃ w4, w3.alloc (.cells #[.slice ao1 ms.length cap1, .int .i64 base, .pointer (some ⟨w1.heap.size + 1, 0, none⟩), .map (some w2.heap.size)] 155) = w4 := ⟨_, rfl⟩
  have x4 : w4.heap[w3.heap.size]? = some (.cells #[.slice ao1 ms.length cap1, .int .i64 base, .pointer (some ⟨w1.heap.size + 1, 0, none⟩), .map (some w2.heap.size)] 155 (0, 0)) := by rw [← hw4]; exact box_at _ _
  have b4 : Below w3.heap.size w3 w4 := by rw [← hw4]; exact (Below.refl _ w3).alloc (Nat.le_refl _) _
  rw [hw4]
  have b24 := below_far b3 b4
  have b14 := below_far (unhide B2) b24
  have b04 := below_far (unhide B1) b14
  refine ⟨w3.heap.size, by rw [s3]; rfl, ⟨ao1, cap1, w1.heap.size + 1, w1.heap.size, w2.heap.size, x4, (unhide F1).below b14, (unhide L1).1, (unhide L1).2.1, (unhide L1).2.2, Below.stay b24 (unhide X).1, Below.stay b24 (unhide X).2, Below.stay b4 x3⟩, ?_, b04⟩
  have := (unhide B1).size
  have := (unhide B2).size
  omega
end Go.Proofs.YtjplhiflemmkfaaGreatDoor
namespace Go.Proofs.YtjplhiflemmkfaaGreatDoor
open Go.RowKit Go.Maps

/-- an instance's core, fresh. -/
structure PNew (w : World) (c : Nat) (id : Int) (ms : List Int) (base : Int) : Prop where
  ex : ∃ l k, w.heap[c]? = some (.cells #[.pointer (some ⟨l, 0, none⟩), .int .i64 id, .slice none 0 0, .int .i64 0, .pointer (some ⟨k, 0, none⟩), .int .i64 id, .pointer none, .slice none 0 0, .slice none 0 0, .int .i64 0, .int .i64 0, .int .i64 0, .int .i64 0, .int .i64 0, .int .i64 0, .int .i64 0, .int .i64 0, .int .i64 0, .int .i64 0, .int .i64 0, .int .i64 0, .int .i64 0, .int .i64 0, .int .i64 0, .int .i64 0, .int .i64 0, .int .i64 0, .int .i64 0] 150 (0, 0)) ∧ PFresh w l ms base ∧ Ck 140 w k (10 + id % 10)
theorem PNew.below {w w' : World} {c : Nat} {id : Int} {ms : List Int} {base : Int} (h : PNew w c id ms base) (hb : Below w.heap.size w w') : PNew w' c id ms base := by
  obtain ⟨l, k, h1, h2, h3⟩ := h
  exact ⟨l, k, Below.stay hb h1, h2.below hb, h3.below hb⟩

set_option maxRecDepth 20000 in
set_option maxHeartbeats 1000000 in
theorem pbegin_any (id base : Int) (ms : List Int) (l : Nat) (w : World) (h : PFresh w l ms base) :
    Calls Tryz.prog 171 #[.int .i64 id, .pointer (some ⟨l, 0, none⟩)] w fun e w' => ∃ c, e = .returned (.pointer (some ⟨c, 0, none⟩)) ∧ PNew w' c id ms base ∧ w.heap.size ≤ c ∧ Below w.heap.size w w' := by
  have CQ := hide (qnew_any id w)
  have H := hide h
  clear h
  go_enter Tryz.func171, Tryz.ntmps171
  go_wp2_with fail
  refine (unhide CQ).mono ?_
  rintro e w1 ⟨rfl, h1, b1⟩
  have H1 := hide h1
  have B1 := hide b1
  obtain ⟨k, hk⟩ : ∃ k, w.heap.size = k := ⟨_, rfl⟩
  rw [hk] at H1
  rw [hk]
  have HK := hide hk
  clear h1 b1 CQ hk
  go_wp2
  go_ret
  obtain ⟨w2, hw2⟩ : ∃ w2, w1.alloc (.cells #[.pointer (some ⟨l, 0, none⟩), .int .i64 id, .slice none 0 0, .int .i64 0, .pointer (some ⟨k, 0, none⟩), .int .i64 id, .pointer none, .slice none 0 0, .slice none 0 0, .int .i64 0, .int .i64 0, .int .i64 0, .int .i64 0, .int .i64 0, .int .i64 0, .int .i64 0, .int .i64 0, .int .i64 0, .int .i64 0, .int .i64 0, .int .i64 0, .int .i64 0, .int .i64 0, .int .i64 0, .int .i64 0, .int .i64 0, .int .i64 0, .int .i64 0] 150) = w2 := ⟨_, rfl⟩
  have x2 : w2.heap[w1.heap.size]? = some (.cells #[.pointer (some ⟨l, 0, none⟩), .int .i64 id, .slice none 0 0, .int .i64 0, .pointer (some ⟨k, 0, none⟩), .int .i64 id, .pointer none, .slice none 0 0, .slice none 0 0, .int .i64 0, .int .i64 0, .int .i64 0, .int .i64 0, .int .i64 0, .int .i64 0, .int .i64 0, .int .i64 0, .int .i64 0, .int .i64 0, .int .i64 0, .int .i64 0, .int .i64 0, .int .i64 0, .int .i64 0, .int .i64 0, .int .i64 0, .int .i64 0, .int .i64 0] 150 (0, 0)) := by rw [← hw2]; exact box_at _ _
  have b2 : Below w1.heap.size w1 w2 := by rw [← hw2]; exact (Below.refl _ w1).alloc (Nat.le_refl _) _
  rw [hw2]
  have b02 := below_far (unhide B1) b2
  rw [unhide HK]
  refine ⟨w1.heap.size, rfl, ⟨l, k, x2, (unhide H).below b02, (unhide H1).below b2⟩, ?_, ?_⟩
  · rw [← unhide HK]; exact (unhide B1).size
  · rw [← unhide HK]; exact b02
set_option maxRecDepth 20000 in
set_option maxHeartbeats 1000000 in
theorem pnew_any (id base : Int) (an : Option Addr) (nn cn : Nat) (ms : List Int) (hn : ms.length = nn) (hl : nn ≤ 1000000) (w : World) (hw : IntsR w an ms) :
    Calls Tryz.prog 106 #[.int .i64 id, .slice an nn cn, .int .i64 base] w fun e w' => (coreCheck id ms base ≠ 0 → e = .returned (.tuple #[.pointer none, .int .i64 ((coreCheck id ms base : Nat) : Int)])) ∧ (coreCheck id ms base = 0 → ∃ c, e = .returned (.tuple #[.pointer (some ⟨c, 0, none⟩), .int .i64 0]) ∧ PNew w' c id ms base ∧ w.heap.size ≤ c) ∧ Below w.heap.size w w' := by
  have CC := hide (coreCheck_any id base an nn cn ms hn (by omega) w hw)
  have HN := hide hn
  have HW := hide hw
  obtain ⟨f, hf⟩ : ∃ f, coreCheck id ms base = f := ⟨_, rfl⟩
  rw [hf] at CC
  rw [hf]
  clear hf hn hw
  go_enter Tryz.func106, Tryz.ntmps106
  go_wp2_with fail
  refine (unhide CC).mono ?_
  rintro e w1 ⟨rfl, b1⟩
  have B1 := hide b1
  have FR := hide (fresh_any an nn cn ms (unhide HN) hl base w1 ((unhide HW).below b1))
  clear b1 CC
  by_cases hz : f = 0
  · subst hz
    go_wp2_with fail
    refine (unhide FR).mono ?_
    rintro e w2 ⟨l, rfl, h2, s2, b2⟩
    have BG := hide (pbegin_any id base ms l w2 h2)
    have B2 := hide (below_far (unhide B1) b2)
    clear FR h2 b2 s2
    go_wp2_with fail
    refine (unhide BG).mono ?_
    rintro e w3 ⟨c, rfl, h3, s3, b3⟩
    have R := hide (And.intro h3 (And.intro (Nat.le_trans (unhide B2).size s3) (below_far (unhide B2) b3)))
    clear BG h3 s3 b3
    go_wp2
    go_ret2
    exact ⟨⟨c, rfl, (unhide R).1, (unhide R).2.1⟩, (unhide R).2.2⟩
  · have hzi : ¬ ((f : Int) = 0) := by omega
    have hzb : ((f : Int) != 0) = true := by simp; omega
    have HZ := hide hz
    clear hz FR
    go_wp2
    go_ret2
    exact ⟨fun _ => rfl, fun h => absurd h (unhide HZ), unhide B1⟩
end Go.Proofs.YtjplhiflemmkfaaGreatDoor
namespace Go.Proofs.YtjplhiflemmkfaaGreatDoor
open Go.RowKit Go.Maps

theorem len_fresh {w : World} {r : Nat} (h : w.heap[r]? = some (.map #[] 0)) (t ty : TypeId) (e : TypeId) (ht : Tryz.prog.underlying t = some (.map 3 e)) : (Builtin.len_ #[t] ty #[.map (some r)]).run Tryz.prog w = .ok (.int .i64 0) w := by
  simp [Builtin.len_, run_underlying ht, MapKept.run_getObj_map h, goInt, Result.andThen]
theorem role_fresh {c : Nat} {id base : Int} {ms : List Int} (w : World) (h : PNew w c id ms base) : Calls Tryz.prog 92 #[.pointer (some ⟨c, 0, none⟩)] w fun e w' => e = .returned (.int .i64 0) ∧ w' = w := by
  obtain ⟨l, k, h1, _, _⟩ := h
  have c3 : w.cell? ⟨c, 3, none⟩ = some (.int .i64 0) := (cell_of_block h1).trans rfl
  clear h1
  go_enter Tryz.func92, Tryz.ntmps92
  go_wp2
  go_ret
  exact ⟨rfl, rfl⟩
set_option maxRecDepth 20000 in
theorem commitL_fresh {l : Nat} {base : Int} {ms : List Int} (hb0 : 0 ≤ base) (hb1 : base ≤ 64) (w : World) (h : PFresh w l ms base) : Calls Tryz.prog 161 #[.pointer (some ⟨l, 0, none⟩)] w fun e w' => e = .returned (.int .i64 base) ∧ Below w.heap.size w w' := by
  obtain ⟨ao, cap, a, q, r, h1, _, _, _, _, _, _, h8⟩ := h
  have c1 : w.cell? ⟨l, 1, none⟩ = some (.int .i64 base) := (cell_of_block h1).trans rfl
  have c3 : w.cell? ⟨l, 3, none⟩ = some (.map (some r)) := (cell_of_block h1).trans rfl
  have H8 := hide h8
  have hw0 : IntKind.i64.wrap base = base := IntWalk.i64_in _ (by omega)
  have hl := fun (k : Nat) (ty : TypeId) => len_fresh (w := w.drewN k) (r := r) h8 153 ty 43 Tryz.underlying153
  clear h1 h8
  go_enter Tryz.func161, Tryz.ntmps161
  go_wp2_with fail
  go_quiet (fail)
  go_wp2
  go_ret
  exact ⟨rfl, drewN_below w _⟩
theorem commit_fresh {c : Nat} {id base : Int} {ms : List Int} (hb0 : 0 ≤ base) (hb1 : base ≤ 64) (w : World) (h : PNew w c id ms base) : Calls Tryz.prog 91 #[.pointer (some ⟨c, 0, none⟩)] w fun e w' => e = .returned (.int .i64 base) ∧ Below w.heap.size w w' := by
  obtain ⟨l, k, h1, h2, _⟩ := h
  have c0 : w.cell? ⟨c, 0, none⟩ = some (.pointer (some ⟨l, 0, none⟩)) := (cell_of_block h1).trans rfl
  have CL := hide (commitL_fresh hb0 hb1 w h2)
  clear h1 h2
  go_enter Tryz.func91, Tryz.ntmps91
  go_wp2_with fail
  refine (unhide CL).mono ?_
  rintro e w1 ⟨rfl, b1⟩
  go_wp2
  go_ret
  exact ⟨rfl, b1⟩
set_option maxRecDepth 20000 in
theorem config_fresh {c : Nat} {id base : Int} {ms : List Int} (hl : ms.length ≤ 1000000) (w : World) (h : PNew w c id ms base) : Calls Tryz.prog 96 #[.pointer (some ⟨c, 0, none⟩)] w fun e w' => ∃ ao cap, e = .returned (.agg #[.slice none 0 0, .slice ao ms.length cap]) ∧ IntsR w' ao ms ∧ Below w.heap.size w w' := by
  obtain ⟨W, hW⟩ : ∃ W, w.alloc (.cells #[.slice none 0 0, .slice none 0 0] 26) = W := ⟨_, rfl⟩
  have bW : Below w.heap.size w W := by rw [← hW]; exact (Below.refl _ w).alloc (Nat.le_refl _) _
  have xW : W.heap[w.heap.size]? = some (.cells #[.slice none 0 0, .slice none 0 0] 26 (0, 0)) := by rw [← hW]; exact box_at _ _
  obtain ⟨l, k, h1, h2, _⟩ := h.below bW
  obtain ⟨ao, cap, a, q, r, g1, g2, _, _, _, _, _, _⟩ := h2
  have c0 : W.cell? ⟨c, 0, none⟩ = some (.pointer (some ⟨l, 0, none⟩)) := (cell_of_block h1).trans rfl
  have c1 : W.cell? ⟨l, 0, none⟩ = some (.slice ao ms.length cap) := (cell_of_block g1).trans rfl
  have CC := hide (clone_any ao ms.length cap ms rfl hl W g2)
  have XW := hide xW
  have BW := hide bW
  have HW := hide hW
  clear h1 g1 g2 xW bW hW h
  go_enter Tryz.func96, Tryz.ntmps96
  go_upto_region 1 with fail
  rw [unhide HW]
  clear HW
  go_wp2_with fail
  refine (unhide CC).mono ?_
  rintro e w1 ⟨v, rfl, i1, b1⟩
  obtain ⟨ao1, cap1, rfl, hfr, _, _⟩ := i1.slice
  have x1 := Below.stay b1 (unhide XW)
  have d0 : w1.cell? ⟨w.heap.size, 0, none⟩ = some (.slice none 0 0) := (cell_of_block x1).trans rfl
  have d1 : w1.cell? ⟨w.heap.size, 1, none⟩ = some (.slice none 0 0) := (cell_of_block x1).trans rfl
  have f0 : ∀ i, w1.frozen? ⟨w.heap.size, i, none⟩ = false := fun i => free_of_block x1
  have I1 := hide i1
  have X1 := hide x1
  have B1 := hide (below_far (unhide BW) b1)
  clear CC i1 b1 hfr x1
  go_wp2
  obtain ⟨w2, hw2⟩ : ∃ w2 : World, w2 = (w1.setCell ⟨w.heap.size, 0, none⟩ (.slice none 0 0)).setCell ⟨w.heap.size, 1, none⟩ (.slice ao1 ms.length cap1) := ⟨_, rfl⟩
  rw [← hw2]
  have q2 : Only w.heap.size [26] w1 w2 ∧ w2.heap[w.heap.size]? = some (.cells #[.slice none 0 0, .slice ao1 ms.length cap1] 26 (0, 0)) := by
    rw [hw2]
    exact set_one (set_one ⟨Only.refl _ _ _, unhide X1⟩ (Nat.le_refl _) (by simp) 0 _) (Nat.le_refl _) (by simp) 1 _
  have e0 : w2.cell? ⟨w.heap.size, 0, none⟩ = some (.slice none 0 0) := (cell_of_block q2.2).trans rfl
  have e1 : w2.cell? ⟨w.heap.size, 1, none⟩ = some (.slice ao1 ms.length cap1) := (cell_of_block q2.2).trans rfl
  have i2 := own_only (unhide I1) q2.1 (by decide)
  obtain ⟨ao2, cap2, ev, hfr2, _, _⟩ := Ir.slice i2
  simp only [Value.slice.injEq] at ev
  obtain ⟨rfl, -, rfl⟩ := ev
  refine bodyPost_ret (v := .agg #[.slice none 0 0, .slice ao1 ms.length cap1]) (by simp [results, Tryz.results96, go_sem, e0, e1]) rfl ?_
  exact ⟨ao1, cap1, rfl, hfr2.1, (unhide B1).trans q2.1.below⟩
end Go.Proofs.YtjplhiflemmkfaaGreatDoor
namespace Go.Proofs.YtjplhiflemmkfaaGreatDoor
open Go.RowKit Go.Maps
attribute [local go_sem ↓] Go.wp_at_zero Go.wp_at_succ

theorem keyedI : Keyed Tryz.prog 3 := int_keyed Tryz.underlying3
theorem zeroEn (w : World) : (zeroValue 43).run Tryz.prog w = .ok (.agg #[.int .i64 0, .int .i64 0, .int .i64 0, .string ⟨#[]⟩, .slice none 0 0, .int .i64 0]) w := by kernel_rfl
theorem look_fresh {w : World} {r : Nat} (h : w.heap[r]? = some (.map #[] 0)) (x : Int) (hx : (Lit.int .i64 x).wf = true) :
    (Instr.lookup 153 (.map (some r)) (.int .i64 x) false).run Tryz.prog w = .ok (.agg #[.int .i64 0, .int .i64 0, .int .i64 0, .string ⟨#[]⟩, .slice none 0 0, .int .i64 0]) w := by
  have ho : w.ownsMap Tryz.prog 3 (fun v => some (DataW.held v, ([] : List MemPlace))) r 0 (.map []) := ⟨#[], 0, h, ⟨by simp, MapKept.stamped_empty 0, by simp⟩, Nat.le_refl _, rfl⟩
  obtain ⟨v, ps, k1, k2⟩ := ho.lookup keyedI Tryz.underlying153 (zeroEn w) rfl (keyOf_int_mk Tryz.underlying3 hx)
  simp only [Option.some.injEq, Prod.mk.injEq] at k2
  have : v = .agg #[.int .i64 0, .int .i64 0, .int .i64 0, .string ⟨#[]⟩, .slice none 0 0, .int .i64 0] := by
    have := k2.1
    simpa [DataW.atKey] using this
  rw [k1, this]
set_option maxRecDepth 20000 in
theorem isStop_zero (w : World) : Calls Tryz.prog 230 #[.agg #[.int .i64 0, .int .i64 0, .int .i64 0, .string ⟨#[]⟩, .slice none 0 0, .int .i64 0]] w fun e w' => e = .returned (.bool false) ∧ Below w.heap.size w w' := by
  go_enter Tryz.func230, Tryz.ntmps230
  go_wp2
  go_ret
  exact ⟨rfl, (Below.refl _ w).alloc (Nat.le_refl _) _⟩
set_option maxRecDepth 20000 in
set_option maxHeartbeats 1000000 in
theorem stopped_fresh {l : Nat} {base : Int} {ms : List Int} (hb0 : 0 ≤ base) (hb1 : base ≤ 64) (w : World) (h : PFresh w l ms base) : Calls Tryz.prog 163 #[.pointer (some ⟨l, 0, none⟩)] w fun e w' => e = .returned (.bool false) ∧ Below w.heap.size w w' := by
  obtain ⟨ao, cap, a, q, r, h1, _, _, _, _, _, _, h8⟩ := id h
  have hx : (Lit.int .i64 base).wf = true := WalkArith.wf_i64 (by omega)
  have CM := hide (fun (Y : World) (hY : Below w.heap.size w Y) => commitL_fresh hb0 hb1 Y (h.below hY))
  have SX := hide (fun (Y : World) (hY : Below w.heap.size w Y) => (show Y.cell? ⟨l, 3, none⟩ = some (.map (some r)) from (cell_of_block (Below.stay hY h1)).trans rfl))
  have LK := hide (fun (Y : World) (hY : Below w.heap.size w Y) => look_fresh (Below.stay hY h8) base hx)
  have S0 := unhide SX w.drew ((Below.refl _ w).drew)
  have EZ := hide ((Below.refl w.heap.size w).drew)
  have lk0 := unhide LK w.drew ((Below.refl _ w).drew)
  clear h h1 h8 hx
  go_enter Tryz.func163, Tryz.ntmps163
  go_upto_region 1 with fail
  go_region_held3 (fun Y => Y.cell? ⟨l, 3, none⟩ = some (.map (some r))) (first | with_reducible exact S0 | with_reducible exact unhide SX _ (unhide EZ) | fail)
    (first
      | (go_at_call 161
         refine (unhide CM _ (unhide EZ)).mono ?_
         rintro e z1 ⟨rfl, bz⟩
         have EN := hide (below_far (unhide EZ) bz)
         clear EZ bz
         have EZ := EN
         clear EN
         have lk1 := unhide LK _ (unhide EZ))
      | (go_at_call 230
         refine (isStop_zero _).mono ?_
         rintro e z2 ⟨rfl, bz⟩
         have EN := hide (below_far (unhide EZ) bz)
         clear EZ bz
         have EZ := EN
         clear EN)
      | fail)
  all_goals go_wp2
  all_goals go_ret
  all_goals exact ⟨rfl, unhide EZ⟩
theorem sealed_fresh {c : Nat} {id base : Int} {ms : List Int} (hb0 : 0 ≤ base) (hb1 : base ≤ 64) (w : World) (h : PNew w c id ms base) : Calls Tryz.prog 94 #[.pointer (some ⟨c, 0, none⟩)] w fun e w' => e = .returned (.bool false) ∧ Below w.heap.size w w' := by
  obtain ⟨l, k, h1, h2, _⟩ := h
  have c0 : w.cell? ⟨c, 0, none⟩ = some (.pointer (some ⟨l, 0, none⟩)) := (cell_of_block h1).trans rfl
  have CL := hide (stopped_fresh hb0 hb1 w h2)
  clear h1 h2
  go_enter Tryz.func94, Tryz.ntmps94
  go_wp2_with fail
  refine (unhide CL).mono ?_
  rintro e w1 ⟨rfl, b1⟩
  go_wp2
  go_ret
  exact ⟨rfl, b1⟩
end Go.Proofs.YtjplhiflemmkfaaGreatDoor
