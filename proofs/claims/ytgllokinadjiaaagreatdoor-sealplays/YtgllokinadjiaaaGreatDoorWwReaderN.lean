/- wire's reader: config, entries: contracts. wire's reader: msg: a contract. What wire's reader makes of bytes that were written: plain functions. wire's reader: end; wire.ParseEntry: contracts. -/
import Derived.Test.YtgllokinadjiaaaGreatDoorWwBounds
namespace Go.Proofs.YtgllokinadjiaaaGreatDoor.Ww
open Go.RowKit

/-- what config answers, and does. -/
def rconfig (bs : List Nat) (s : Nat × Nat) : (List Int × List Int) × (Nat × Nat) :=
  (((rlist bs 5 s).1, (rlist bs 5 (rlist bs 5 s).2).1), (rlist bs 5 (rlist bs 5 s).2).2)

set_option maxRecDepth 20000 in
set_option maxHeartbeats 2000000 in
theorem rg_config {base : Nat} {wz w : World} {p : Nat} {ao : Option Addr} {n cap : Nat} {bs : List Nat} {s : Nat × Nat} (h : Rg base wz w p ao n cap bs s) :
    Calls Tryz.prog 83 #[.pointer (some ⟨p, 0, none⟩)] w fun e w' => ∃ ao1 cap1 ao2 cap2, e = .returned (.agg #[.slice ao1 (rconfig bs s).1.1.length cap1, .slice ao2 (rconfig bs s).1.2.length cap2]) ∧ w'.ownsRow w.heap.size 3 1 (.slice ao1 (rconfig bs s).1.1.length cap1) (rconfig bs s).1.1.length (i64s (rconfig bs s).1.1) ∧ w'.ownsRow w.heap.size 3 1 (.slice ao2 (rconfig bs s).1.2.length cap2) (rconfig bs s).1.2.length (i64s (rconfig bs s).1.2) ∧ Rg base wz w' p ao n cap bs (rconfig bs s).2 ∧ Only base [167] w w' := by
  have E1 : Hid (rconfig bs s = (((rlist bs 5 s).1, (rlist bs 5 (rlist bs 5 s).2).1), (rlist bs 5 (rlist bs 5 s).2).2)) := by show _ = _; rfl
  obtain ⟨g0, hg0⟩ : ∃ g0 : World, g0 = w.alloc (.cells #[.slice none 0 0, .slice none 0 0] 24) := ⟨_, rfl⟩
  have hbase := h.2.2.1
  have H0 := hide h
  have HG : Hid (Rg base w g0 p ao n cap bs s) := by subst hg0; exact (Rg.start h.1 h.2.1 h.2.2.1).alloc _
  have HB : Hid (g0.heap[w.heap.size]? = some (.cells #[.slice none 0 0, .slice none 0 0] 24 (0, 0))) := by subst hg0; exact heap_alloc_new _ _
  have HE := hide hg0
  have z0 : w.heap.size ≤ g0.heap.size := by subst hg0; simp
  clear h hg0
  go_enter Tryz.func83, Tryz.ntmps83
  go_wp2_with fail
  rw [← unhide HE]
  clear HE
  refine (rg_list 5 (by decide) (unhide HG)).mono ?_
  rintro e w1 ⟨v, rfl, o1, r1, k1⟩
  obtain ⟨ao1, cap1, rfl⟩ := row_slice o1
  have O1 := hide o1
  have R1 := hide r1
  have HB1 := hide (k1.block (unhide HB) (by decide))
  have z1 : w.heap.size ≤ w1.heap.size := Nat.le_trans z0 k1.size
  clear o1 r1 k1 HG HB
  generalize rlist bs 5 s = m at *
  obtain ⟨m, sm⟩ := m
  obtain ⟨nm, hnm⟩ : ∃ nm, m.length = nm := ⟨_, rfl⟩
  rw [show (m, sm).1.length = nm from hnm] at O1 ⊢
  have HNM := hide hnm
  clear hnm
  go_wp2_with fail
  refine (rg_list 5 (by decide) (unhide R1)).mono ?_
  rintro e w2 ⟨v, rfl, o2, r2, k2⟩
  obtain ⟨ao2, cap2, rfl⟩ := row_slice o2
  have O2 := hide o2
  have O1' := hide (own_only (unhide O1) k2 (by decide))
  have R2 := hide r2
  have hb2 := k2.block (unhide HB1) (by decide)
  have z2 : w.heap.size ≤ w2.heap.size := Nat.le_trans z1 k2.size
  clear o2 r2 k2 R1 HB1 O1
  generalize rlist bs 5 (m, sm).2 = t at *
  obtain ⟨t, st⟩ := t
  obtain ⟨nt, hnt⟩ : ∃ nt, t.length = nt := ⟨_, rfl⟩
  rw [show (t, st).1.length = nt from hnt] at O2 ⊢
  have HNT := hide hnt
  clear hnt
  have c0 : w2.cell? ⟨w.heap.size, 0, none⟩ = some (.slice none 0 0) := (cell_of_block hb2).trans rfl
  have c1 : w2.cell? ⟨w.heap.size, 1, none⟩ = some (.slice none 0 0) := (cell_of_block hb2).trans rfl
  have f2 : ∀ i, w2.frozen? ⟨w.heap.size, i, none⟩ = false := fun i => free_of_block hb2
  have HB2 := hide hb2
  clear hb2
  go_wp2
  obtain ⟨w7, h7⟩ : ∃ w7 : World, w7 = ((w2.setCell ⟨w.heap.size, 0, none⟩ (.slice ao1 nm cap1)).setCell ⟨w.heap.size, 1, none⟩ (.slice ao2 nt cap2)) := ⟨_, rfl⟩
  rw [← h7]
  have q7 : Only w.heap.size [24] w2 w7 ∧ w7.heap[w.heap.size]? = some (.cells #[.slice ao1 nm cap1, .slice ao2 nt cap2] 24 (0, 0)) := by
    rw [h7]
    exact set_one (set_one ⟨Only.refl _ _ _, unhide HB2⟩ (Nat.le_refl _) (by simp) 0 _) (Nat.le_refl _) (by simp) 1 _
  clear h7 c0 c1 f2 HB2
  have c0 : w7.cell? ⟨w.heap.size, 0, none⟩ = some (.slice ao1 nm cap1) := (cell_of_block q7.2).trans rfl
  have c1 : w7.cell? ⟨w.heap.size, 1, none⟩ = some (.slice ao2 nt cap2) := (cell_of_block q7.2).trans rfl
  have r7 := (unhide R2).1.own q7.1 (by decide) (by decide)
  have k7 := (unhide R2).2.2.2.fresh q7.1.below hbase
  refine bodyPost_ret (v := .agg #[.slice ao1 nm cap1, .slice ao2 nt cap2]) (by simp [results, Tryz.results83, go_sem, c0, c1]) rfl ?_
  rw [unhide E1]
  simp only [unhide HNM, unhide HNT]
  exact ⟨ao1, cap1, ao2, cap2, rfl, own_wide (own_only (unhide O1') q7.1 (by decide)) z0, own_wide (own_only (unhide O2) q7.1 (by decide)) z1, (unhide H0).next r7 k7, k7⟩

/-- what entries' loop makes in k rounds. -/
def rentriesN (bs : List Nat) : Nat → (Nat × Nat) → List Ent × (Nat × Nat)
  | 0, s => ([], s)
  | k + 1, s => ((rentriesN bs k s).1 ++ [(rentry bs (rentriesN bs k s).2).1], (rentry bs (rentriesN bs k s).2).2)
theorem rentriesN_len (bs : List Nat) (k : Nat) (s : Nat × Nat) : (rentriesN bs k s).1.length = k := by
  induction k with
  | zero => rfl
  | succ k ih => simp [rentriesN, ih]
/-- what entries answers, and does. -/
def rentries (bs : List Nat) (s : Nat × Nat) : List Ent × (Nat × Nat) := rentriesN bs (rrule bs 6 s).1 (rrule bs 6 s).2
/-- the lists of entries, each a row of the call's own. -/
def Mems (base : Nat) (w : World) (xs : List Ent) (vs : List Value) : Prop := xs.length = vs.length ∧ ∀ (i : Nat) (x : Ent) (v : Value), xs[i]? = some x → vs[i]? = some v → w.ownsRow base 3 1 v x.members.length (i64s x.members)
def ecells (xs : List Ent) (vs : List Value) : List Value := (List.zipWith (fun x v => (Ent.cells x v).toList) xs vs).flatten
theorem Mems.nil (base : Nat) (w : World) : Mems base w [] [] := ⟨rfl, fun i x v hx _ => by simp at hx⟩
theorem Mems.only {base b : Nat} {ts : List TypeId} {w w' : World} {xs : List Ent} {vs : List Value} (h : Mems base w xs vs) (hk : Only b ts w w') (ht : 3 ∉ ts) : Mems base w' xs vs :=
  ⟨h.1, fun i x v hx hv => own_only (h.2 i x v hx hv) hk ht⟩
theorem Mems.wide {base b : Nat} {w : World} {xs : List Ent} {vs : List Value} (h : Mems base w xs vs) (hb : b ≤ base) : Mems b w xs vs :=
  ⟨h.1, fun i x v hx hv => own_wide (h.2 i x v hx hv) hb⟩
theorem Mems.snoc {base : Nat} {w : World} {xs : List Ent} {vs : List Value} {x : Ent} {v : Value} (h : Mems base w xs vs) (ho : w.ownsRow base 3 1 v x.members.length (i64s x.members)) : Mems base w (xs ++ [x]) (vs ++ [v]) := by
  refine ⟨by simp [h.1], fun i y u hy hu => ?_⟩
  by_cases hi : i < xs.length
  · rw [List.getElem?_append_left hi] at hy
    rw [List.getElem?_append_left (by rw [← h.1]; exact hi)] at hu
    exact h.2 i y u hy hu
  · rw [List.getElem?_append_right (by omega)] at hy
    rw [List.getElem?_append_right (by rw [← h.1]; omega)] at hu
    have h0 : i - xs.length = 0 := by
      rcases Nat.eq_zero_or_pos (i - xs.length) with h | h
      · exact h
      · rw [List.getElem?_eq_none (by simp; omega)] at hy; cases hy
    rw [h0] at hy
    rw [← h.1, h0] at hu
    simp only [List.getElem?_cons_zero, Option.some.injEq] at hy hu
    subst hy; subst hu
    exact ho
theorem ecells_snoc {xs : List Ent} {vs : List Value} (h : xs.length = vs.length) (x : Ent) (v : Value) : ecells (xs ++ [x]) (vs ++ [v]) = ecells xs vs ++ (x.cells v).toList := by
  unfold ecells
  rw [List.zipWith_append h]; simp
theorem ent_one (x : Ent) (ao : Option Addr) (n cap : Nat) : ∀ u ∈ (x.cells (.slice ao n cap)).toList, u.oneCell' = true := by
  intro u hu
  simp only [Ent.cells, List.mem_cons, List.not_mem_nil, or_false] at hu
  rcases hu with rfl | rfl | rfl | rfl | rfl | rfl <;> rfl
end Go.Proofs.YtgllokinadjiaaaGreatDoor.Ww
namespace Go.Proofs.YtgllokinadjiaaaGreatDoor.Ww
open Go.RowKit

/-- a message, plainly. -/
structure Mes where
  src : Int
  to' : Int
  gen : Int
  kind : Int
  term : Int
  index : Int
  last : Int
  commit : Int
  yes : Bool
  terms : List Int
  ents : List Ent
  cold : List Int
  cnew : List Int
/-- what msg answers, and does. -/
def rmsg (bs : List Nat) (s : Nat × Nat) : Mes × (Nat × Nat) :=
  let a1 := rtake bs.length 8 s
  let a2 := rtake bs.length 8 a1
  let a3 := rtake bs.length 8 a2
  let k := rrule bs 2 a3
  let a5 := rtake bs.length 8 k.2
  let a6 := rtake bs.length 8 a5
  let a7 := rtake bs.length 8 a6
  let a8 := rtake bs.length 8 a7
  let y := rrule bs 3 a8
  let l := rlist bs 6 y.2
  let e := rentries bs l.2
  let c := rconfig bs e.2
  (⟨rint bs s, rint bs a1, rint bs a2, k.1, rint bs k.2, rint bs a5, rint bs a6, rint bs a7, ((y.1 : Nat) : Int) == 1, l.1, e.1, c.1.1, c.1.2⟩, c.2)
/-- the cells of a message. -/
def Mes.cells (x : Mes) (v e o n : Value) : Array Value := #[.int .i64 x.src, .int .i64 x.to', .int .i64 x.gen, .int .i64 x.kind, .int .i64 x.term, .int .i64 x.index, .int .i64 x.last, .int .i64 x.commit, .bool x.yes, v, e, o, n]
end Go.Proofs.YtgllokinadjiaaaGreatDoor.Ww
namespace Go.Proofs.YtgllokinadjiaaaGreatDoor.Ww
open Go.RowKit

/-- a reader's function: of all bytes, the place and the first flaw. -/
abbrev RF (α : Type) := List Nat → (Nat × Nat) → α × (Nat × Nat)
def bindR {α β : Type} (R : RF α) (F : α → RF β) : RF β := fun bs s => F (R bs s).1 bs (R bs s).2
def retR {α : Type} (v : α) : RF α := fun _ s => (v, s)
/-- a flaw stays. -/
def Stays {α : Type} (R : RF α) : Prop := ∀ bs s, s.2 ≠ 0 → (R bs s).2.2 = s.2
/-- the bytes c are read as v; each front of them is cut. -/
def Reads {α : Type} (R : RF α) (c : List Nat) (v : α) : Prop :=
  (∀ pre rest, R (pre ++ c ++ rest) (pre.length, 0) = (v, (pre.length + c.length, 0))) ∧ ∀ pre k, k < c.length → (R (pre ++ c.take k) (pre.length, 0)).2.2 = 8
theorem stays_ret {α : Type} (v : α) : Stays (retR v) := fun _ _ _ => rfl
theorem stays_bind {α β : Type} {R : RF α} {F : α → RF β} (h : Stays R) (hf : ∀ v, Stays (F v)) : Stays (bindR R F) := fun bs s hs => by
  unfold bindR
  have h1 := h bs s hs
  rw [hf _ bs _ (by rw [h1]; exact hs), h1]
theorem reads_ret {α : Type} (v : α) : Reads (retR v) [] v := ⟨fun _ _ => rfl, fun _ k hk => by simp at hk⟩
theorem reads_bind {α β : Type} {R : RF α} {F : α → RF β} {c d : List Nat} {v : α} {u : β} (h : Reads R c v) (hf : Reads (F v) d u) (hs : ∀ v, Stays (F v)) : Reads (bindR R F) (c ++ d) u := by
  refine ⟨fun pre rest => ?_, fun pre k hk => ?_⟩
  · unfold bindR
    rw [show pre ++ (c ++ d) ++ rest = pre ++ c ++ (d ++ rest) by simp, h.1]
    simp only
    rw [show pre ++ c ++ (d ++ rest) = (pre ++ c) ++ d ++ rest by simp, ← List.length_append, hf.1, List.length_append, List.length_append, Nat.add_assoc]
  · unfold bindR
    by_cases hc : k < c.length
    · rw [List.take_append_of_le_length (Nat.le_of_lt hc)]
      have h8 := h.2 pre k hc
      rw [hs _ _ _ (by rw [h8]; decide), h8]
    · rw [List.take_append, List.take_of_length_le (by omega), ← List.append_assoc]
      rw [h.1, ← List.length_append]
      exact hf.2 (pre ++ c) (k - c.length) (by rw [List.length_append] at hk; omega)

theorem taken_at (pre c rest : List Nat) : taken (pre ++ c ++ rest) c.length (pre.length, 0) = c ∧ rtake (pre ++ c ++ rest).length c.length (pre.length, 0) = (pre.length + c.length, 0) := by
  have e : rtake (pre ++ c ++ rest).length c.length (pre.length, 0) = (pre.length + c.length, 0) := by
    unfold rtake
    rw [if_neg (by simp), if_neg (by simp only [List.length_append]; omega)]
  refine ⟨?_, e⟩
  unfold taken
  rw [e, if_pos rfl]
  simp
theorem taken_cut (pre c : List Nat) (k n : Nat) (hk : k < n) (hc : c.length = k) : taken (pre ++ c) n (pre.length, 0) = [] ∧ rtake (pre ++ c).length n (pre.length, 0) = (pre.length, 8) := by
  have e : rtake (pre ++ c).length n (pre.length, 0) = (pre.length, 8) := by
    unfold rtake
    rw [if_neg (by simp), if_pos (by simp only [List.length_append]; omega)]
  refine ⟨?_, e⟩
  unfold taken
  rw [e, if_neg (by simp)]
theorem rtake_stay (n k : Nat) (s : Nat × Nat) (h : s.2 ≠ 0) : rtake n k s = s := by unfold rtake; rw [if_pos h]

/-- take. -/
def takeR (k : Nat) : RF (List Nat) := fun bs s => (taken bs k s, rtake bs.length k s)
theorem takeR_stays (k : Nat) : Stays (takeR k) := fun bs s h => by simp only [takeR, rtake_stay _ _ _ h]
theorem takeR_reads {c : List Nat} {k : Nat} (hk : c.length = k) : Reads (takeR k) c c := by
  subst hk
  refine ⟨fun pre rest => ?_, fun pre k hk => ?_⟩
  · unfold takeR
    rw [(taken_at pre c rest).1, (taken_at pre c rest).2]
  · unfold takeR
    rw [(taken_cut pre (c.take k) k c.length hk (by rw [List.length_take]; omega)).2]
/-- integer. -/
def intR : RF Int := fun bs s => (rint bs s, rtake bs.length 8 s)
theorem intR_bind : intR = bindR (takeR 8) fun c => retR (wrap64 ((joinTo 0 c : Nat) : Int)) := rfl
theorem intR_stays : Stays intR := by rw [intR_bind]; exact stays_bind (takeR_stays 8) fun _ => stays_ret _
theorem num8_join {y : Int} (h1 : -9223372036854775808 ≤ y) (h2 : y < 9223372036854775808) : wrap64 ((joinTo 0 (num8 y) : Nat) : Int) = y := by
  unfold num8
  rw [join_be8 (by omega), Int.toNat_of_nonneg (by omega)]
  unfold wrap64
  omega
theorem intR_reads {y : Int} (h1 : -9223372036854775808 ≤ y) (h2 : y < 9223372036854775808) : Reads intR (num8 y) y := by
  rw [intR_bind]
  have h := reads_bind (F := fun c => retR (wrap64 ((joinTo 0 c : Nat) : Int))) (takeR_reads (num8_len y)) (reads_ret _) (fun _ => stays_ret _)
  rw [List.append_nil, num8_join h1 h2] at h
  exact h
/-- ruled. -/
def ruleR (q : Nat) : RF Nat := fun bs s => rrule bs q s
theorem ruleR_stays (q : Nat) : Stays (ruleR q) := fun bs s h => by
  unfold ruleR rrule
  rw [rtake_stay _ _ _ h]
  split
  · rfl
  · simp only
theorem ruleR_reads {q v : Nat} (h : refuse q v = 0) : Reads (ruleR q) [v] v := by
  refine ⟨fun pre rest => ?_, fun pre k hk => ?_⟩
  · have e := taken_at pre [v] rest
    simp only [List.length_singleton] at e
    unfold ruleR rrule
    rw [e.1, e.2]
    have ej : joinTo 0 [v] = v := by simp [joinTo]
    rw [ej, if_pos h]; rfl
  · have e := taken_cut pre ([v].take k) k 1 hk (by simp at hk; subst hk; rfl)
    unfold ruleR rrule
    rw [e.2]
    split
    · rfl
    · simp
/-- text. -/
theorem text_bind : (fun bs s => rtext bs s) = bindR (ruleR 4) takeR := rfl
def textR : RF (List Nat) := fun bs s => rtext bs s
theorem textR_stays : Stays textR := stays_bind (R := ruleR 4) (F := takeR) (ruleR_stays 4) takeR_stays
theorem textR_reads {c : List Nat} (h : refuse 4 c.length = 0) : Reads textR ([c.length] ++ c) c :=
  reads_bind (R := ruleR 4) (F := takeR) (ruleR_reads h) (takeR_reads rfl) takeR_stays
/-- a loop. -/
def loopR {α : Type} (R : RF α) : Nat → RF (List α)
  | 0 => retR []
  | k + 1 => bindR (loopR R k) fun l => bindR R fun y => retR (l ++ [y])
theorem loopR_stays {α : Type} {R : RF α} (h : Stays R) : ∀ k, Stays (loopR R k)
  | 0 => stays_ret _
  | k + 1 => stays_bind (loopR_stays h k) fun _ => stays_bind h fun _ => stays_ret _
theorem loopR_reads {α : Type} {R : RF α} (hs : Stays R) (cs : List (List Nat)) (ys : List α) (hl : cs.length = ys.length) (h : ∀ (i : Nat) (c : List Nat) (y : α), cs[i]? = some c → ys[i]? = some y → Reads R c y) : Reads (loopR R ys.length) cs.flatten ys := by
  obtain ⟨k, hk⟩ : ∃ k, ys.length = k := ⟨_, rfl⟩
  rw [hk]
  induction k generalizing cs ys with
  | zero =>
    obtain rfl : ys = [] := List.length_eq_zero_iff.1 hk
    obtain rfl : cs = [] := List.length_eq_zero_iff.1 (hl.trans hk)
    exact reads_ret _
  | succ k ih =>
    have hy0 : ys ≠ [] := fun e => by simp [e] at hk
    have hc0 : cs ≠ [] := fun e => by simp [e] at hl; omega
    have ey := List.dropLast_concat_getLast hy0
    have ec := List.dropLast_concat_getLast hc0
    have i1 := ih cs.dropLast ys.dropLast (by simp [hl]) (fun i c y hc hy => by
      have hi : i < ys.dropLast.length := by
        by_cases hi : i < ys.dropLast.length
        · exact hi
        · rw [List.getElem?_eq_none (by omega)] at hy; cases hy
      rw [List.length_dropLast] at hi
      refine h i c y ?_ ?_
      · rw [← hc, List.getElem?_dropLast, if_pos (by omega)]
      · rw [← hy, List.getElem?_dropLast, if_pos hi]) (by simp [hk])
    have i2 := h k (cs.getLast hc0) (ys.getLast hy0) (by rw [List.getLast_eq_getElem, List.getElem?_eq_getElem (by omega)]; simp [hl, hk]) (by rw [List.getLast_eq_getElem, List.getElem?_eq_getElem (by omega)]; simp [hk])
    have i3 := reads_bind (F := fun l => bindR R fun y => retR (l ++ [y])) i1 (reads_bind i2 (reads_ret _) (fun _ => stays_ret _)) (fun _ => stays_bind hs fun _ => stays_ret _)
    rw [ey, List.append_nil] at i3
    rw [show cs.flatten = cs.dropLast.flatten ++ cs.getLast hc0 by conv => lhs; rw [← ec]; rw [List.flatten_append]; simp]
    exact i3
end Go.Proofs.YtgllokinadjiaaaGreatDoor.Ww
namespace Go.Proofs.YtgllokinadjiaaaGreatDoor.Ww
open Go.RowKit

/-- what end does. -/
def rend (n : Nat) (s : Nat × Nat) : Nat × Nat := if s.1 < n then (s.1, if s.2 = 0 then 9 else s.2) else s

set_option maxHeartbeats 1000000 in
theorem rg_end {base : Nat} {wz w : World} {p : Nat} {ao : Option Addr} {n cap : Nat} {bs : List Nat} {s : Nat × Nat} (h : Rg base wz w p ao n cap bs s) :
    Calls Tryz.prog 86 #[.pointer (some ⟨p, 0, none⟩)] w fun e w' => e = .returned (.tuple #[]) ∧ Rg base wz w' p ao n cap bs (rend n s) ∧ Only base [167] w w' := by
  have H := hide h
  have hbase := h.2.2.1
  have hbig := h.2.1.big
  obtain ⟨ev, hp, hbp, herr, hpos⟩ := h.1
  obtain ⟨pos, er⟩ := s
  simp only at hp herr hpos
  have c0 : w.cell? ⟨p, 0, none⟩ = some (.slice ao n cap) := (cell_of_block hp).trans rfl
  have c1 : w.cell? ⟨p, 1, none⟩ = some (.int .i64 (pos : Int)) := (cell_of_block hp).trans rfl
  clear hp herr h
  by_cases hc : pos < n
  · have E1 : Hid (rend n (pos, er) = (pos, if er = 0 then 9 else er)) := by show _ = _; unfold rend; rw [if_pos hc]
    have hci : (pos : Int) < (n : Int) := by omega
    go_enter Tryz.func86, Tryz.ntmps86
    go_wp2_with fail
    go_quiet (fail)
    have c1' : (w.drewN nq).cell? ⟨p, 1, none⟩ = some (.int .i64 (pos : Int)) := c1
    go_wp2_with fail
    refine (fail_any base p ao n cap pos er pos 9 (by decide) (w.drewN nq) ((unhide H).1.below (drewN_below w nq)) hbase).mono ?_
    rintro e w1 ⟨rfl, r1, k1⟩
    have R1 := hide r1
    have K1 := hide k1
    clear r1 k1
    go_wp2
    go_end0
    rw [unhide E1]
    have kk := (Only.of_below (ts := [167]) (drewN_below w nq) hbase).trans (unhide K1)
    exact ⟨rfl, (unhide H).next (unhide R1) kk, kk⟩
  · have E1 : Hid (rend n (pos, er) = (pos, er)) := by show _ = _; unfold rend; rw [if_neg hc]
    have hci : ¬ (pos : Int) < (n : Int) := by omega
    go_enter Tryz.func86, Tryz.ntmps86
    go_wp2_with fail
    go_quiet (fail)
    go_wp2
    go_end0
    rw [unhide E1]
    have kk := Only.of_below (ts := [167]) (drewN_below w nq) hbase
    exact ⟨rfl, (unhide H).next ((unhide H).1.below (drewN_below w nq)) kk, kk⟩

/-- the bytes that are handed to Parse. -/
structure Given (w : World) (ao : Option Addr) (n m : Nat) (bs : List Nat) : Prop where
  len : bs.length = n
  room : n ≤ m
  nul : ao = none → m = 0
  big : n ≤ 1000000000000
  are : Bytes w ao bs
theorem Given.below {w w' : World} {ao : Option Addr} {n m : Nat} {bs : List Nat} (h : Given w ao n m bs) (hb : Below w.heap.size w w') : Given w' ao n m bs := ⟨h.len, h.room, h.nul, h.big, h.are.below hb⟩
theorem Given.src {w w1 : World} {ao : Option Addr} {n m : Nat} {bs : List Nat} (h : Given w ao n m bs) (hb : Below w.heap.size w w1) : Src w.heap.size w1 ao n m bs :=
  ⟨h.len, h.room, h.nul, h.big, fun _ ho => h.are.below (hb.trans ho.below)⟩

end Go.Proofs.YtgllokinadjiaaaGreatDoor.Ww
