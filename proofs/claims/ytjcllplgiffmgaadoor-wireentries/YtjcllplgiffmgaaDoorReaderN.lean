/- wire's reader: config, entries: contracts. -/
import Derived.Test.YtjcllplgiffmgaaDoorReaderE
namespace Go.Proofs.YtjcllplgiffmgaaDoor
open Go.RowKit

/-- what config answers, and does. -/
def rconfig (bs : List Nat) (s : Nat × Nat) : (List Int × List Int) × (Nat × Nat) :=
  (((rlist bs 5 s).1, (rlist bs 5 (rlist bs 5 s).2).1), (rlist bs 5 (rlist bs 5 s).2).2)

set_option maxRecDepth 20000 in
set_option maxHeartbeats 2000000 in
theorem rg_config {base : Nat} {wz w : World} {p : Nat} {ao : Option Addr} {n cap : Nat} {bs : List Nat} {s : Nat × Nat} (h : Rg base wz w p ao n cap bs s) :
    Calls Tryd.prog 56 #[.pointer (some ⟨p, 0, none⟩)] w fun e w' => ∃ ao1 cap1 ao2 cap2, e = .returned (.agg #[.slice ao1 (rconfig bs s).1.1.length cap1, .slice ao2 (rconfig bs s).1.2.length cap2]) ∧ w'.ownsRow w.heap.size 3 1 (.slice ao1 (rconfig bs s).1.1.length cap1) (rconfig bs s).1.1.length (i64s (rconfig bs s).1.1) ∧ w'.ownsRow w.heap.size 3 1 (.slice ao2 (rconfig bs s).1.2.length cap2) (rconfig bs s).1.2.length (i64s (rconfig bs s).1.2) ∧ Rg base wz w' p ao n cap bs (rconfig bs s).2 ∧ Only base [113] w w' := by
  have E1 : Hid (rconfig bs s = (((rlist bs 5 s).1, (rlist bs 5 (rlist bs 5 s).2).1), (rlist bs 5 (rlist bs 5 s).2).2)) := by show _ = _; rfl
  obtain ⟨g0, hg0⟩ : ∃ g0 : World, g0 = w.alloc (.cells #[.slice none 0 0, .slice none 0 0] 39) := ⟨_, rfl⟩
  have hbase := h.2.2.1
  have H0 := hide h
  have HG : Hid (Rg base w g0 p ao n cap bs s) := by subst hg0; exact (Rg.start h.1 h.2.1 h.2.2.1).alloc _
  have HB : Hid (g0.heap[w.heap.size]? = some (.cells #[.slice none 0 0, .slice none 0 0] 39 (0, 0))) := by subst hg0; exact heap_alloc_new _ _
  have HE := hide hg0
  have z0 : w.heap.size ≤ g0.heap.size := by subst hg0; simp
  clear h hg0
  go_enter Tryd.func56, Tryd.ntmps56
  go_wp2_with fail
  rw [← unhide HE]
  clear HE
  refine (rg_list 5 (by decide) (unhide HG)).mono ?_
  rintro e w1 ⟨v, rfl, o1, r1, k1⟩
  obtain ⟨ao1, cap1, rfl⟩ := row_slice o1
  have O1 := hide o1
  have R1 := hide r1
  have HB1 := hide (k1.block (unhide HB) (by decide))
  have z1 : w.heap.size ≤ w1.heap.size := Nat.le_trans z0 k1.size
  clear o1 r1 k1 HG HB
  generalize rlist bs 5 s = m at *
  obtain ⟨m, sm⟩ := m
  obtain ⟨nm, hnm⟩ : ∃ nm, m.length = nm := ⟨_, rfl⟩
  rw [show (m, sm).1.length = nm from hnm] at O1 ⊢
  have HNM := hide hnm
  clear hnm
  go_wp2_with fail
  refine (rg_list 5 (by decide) (unhide R1)).mono ?_
  rintro e w2 ⟨v, rfl, o2, r2, k2⟩
  obtain ⟨ao2, cap2, rfl⟩ := row_slice o2
  have O2 := hide o2
  have O1' := hide (own_only (unhide O1) k2 (by decide))
  have R2 := hide r2
  have hb2 := k2.block (unhide HB1) (by decide)
  have z2 : w.heap.size ≤ w2.heap.size := Nat.le_trans z1 k2.size
  clear o2 r2 k2 R1 HB1 O1
  generalize rlist bs 5 (m, sm).2 = t at *
  obtain ⟨t, st⟩ := t
  obtain ⟨nt, hnt⟩ : ∃ nt, t.length = nt := ⟨_, rfl⟩
  rw [show (t, st).1.length = nt from hnt] at O2 ⊢
  have HNT := hide hnt
  clear hnt
  have c0 : w2.cell? ⟨w.heap.size, 0, none⟩ = some (.slice none 0 0) := (cell_of_block hb2).trans rfl
  have c1 : w2.cell? ⟨w.heap.size, 1, none⟩ = some (.slice none 0 0) := (cell_of_block hb2).trans rfl
  have f2 : ∀ i, w2.frozen? ⟨w.heap.size, i, none⟩ = false := fun i => free_of_block hb2
  have HB2 := hide hb2
  clear hb2
  go_wp2
  obtain ⟨w7, h7⟩ : ∃ w7 : World, w7 = ((w2.setCell ⟨w.heap.size, 0, none⟩ (.slice ao1 nm cap1)).setCell ⟨w.heap.size, 1, none⟩ (.slice ao2 nt cap2)) := ⟨_, rfl⟩
  rw [← h7]
  have q7 : Only w.heap.size [39] w2 w7 ∧ w7.heap[w.heap.size]? = some (.cells #[.slice ao1 nm cap1, .slice ao2 nt cap2] 39 (0, 0)) := by
    rw [h7]
    exact set_one (set_one ⟨Only.refl _ _ _, unhide HB2⟩ (Nat.le_refl _) (by simp) 0 _) (Nat.le_refl _) (by simp) 1 _
  clear h7 c0 c1 f2 HB2
  have c0 : w7.cell? ⟨w.heap.size, 0, none⟩ = some (.slice ao1 nm cap1) := (cell_of_block q7.2).trans rfl
  have c1 : w7.cell? ⟨w.heap.size, 1, none⟩ = some (.slice ao2 nt cap2) := (cell_of_block q7.2).trans rfl
  have r7 := (unhide R2).1.own q7.1 (by decide) (by decide)
  have k7 := (unhide R2).2.2.2.fresh q7.1.below hbase
  refine bodyPost_ret (v := .agg #[.slice ao1 nm cap1, .slice ao2 nt cap2]) (by simp [results, Tryd.results56, go_sem, c0, c1]) rfl ?_
  rw [unhide E1]
  simp only [unhide HNM, unhide HNT]
  exact ⟨ao1, cap1, ao2, cap2, rfl, own_wide (own_only (unhide O1') q7.1 (by decide)) z0, own_wide (own_only (unhide O2) q7.1 (by decide)) z1, (unhide H0).next r7 k7, k7⟩

/-- what entries' loop makes in k rounds. -/
def rentriesN (bs : List Nat) : Nat → (Nat × Nat) → List Ent × (Nat × Nat)
  | 0, s => ([], s)
  | k + 1, s => ((rentriesN bs k s).1 ++ [(rentry bs (rentriesN bs k s).2).1], (rentry bs (rentriesN bs k s).2).2)
theorem rentriesN_len (bs : List Nat) (k : Nat) (s : Nat × Nat) : (rentriesN bs k s).1.length = k := by
  induction k with
  | zero => rfl
  | succ k ih => simp [rentriesN, ih]
/-- what entries answers, and does. -/
def rentries (bs : List Nat) (s : Nat × Nat) : List Ent × (Nat × Nat) := rentriesN bs (rrule bs 6 s).1 (rrule bs 6 s).2
/-- the lists of entries, each a row of the call's own. -/
def Mems (base : Nat) (w : World) (xs : List Ent) (vs : List Value) : Prop := xs.length = vs.length ∧ ∀ (i : Nat) (x : Ent) (v : Value), xs[i]? = some x → vs[i]? = some v → w.ownsRow base 3 1 v x.members.length (i64s x.members)
def ecells (xs : List Ent) (vs : List Value) : List Value := (List.zipWith (fun x v => (Ent.cells x v).toList) xs vs).flatten
theorem Mems.nil (base : Nat) (w : World) : Mems base w [] [] := ⟨rfl, fun i x v hx _ => by simp at hx⟩
theorem Mems.only {base b : Nat} {ts : List TypeId} {w w' : World} {xs : List Ent} {vs : List Value} (h : Mems base w xs vs) (hk : Only b ts w w') (ht : 3 ∉ ts) : Mems base w' xs vs :=
  ⟨h.1, fun i x v hx hv => own_only (h.2 i x v hx hv) hk ht⟩
theorem Mems.wide {base b : Nat} {w : World} {xs : List Ent} {vs : List Value} (h : Mems base w xs vs) (hb : b ≤ base) : Mems b w xs vs :=
  ⟨h.1, fun i x v hx hv => own_wide (h.2 i x v hx hv) hb⟩
theorem Mems.snoc {base : Nat} {w : World} {xs : List Ent} {vs : List Value} {x : Ent} {v : Value} (h : Mems base w xs vs) (ho : w.ownsRow base 3 1 v x.members.length (i64s x.members)) : Mems base w (xs ++ [x]) (vs ++ [v]) := by
  refine ⟨by simp [h.1], fun i y u hy hu => ?_⟩
  by_cases hi : i < xs.length
  · rw [List.getElem?_append_left hi] at hy
    rw [List.getElem?_append_left (by rw [← h.1]; exact hi)] at hu
    exact h.2 i y u hy hu
  · rw [List.getElem?_append_right (by omega)] at hy
    rw [List.getElem?_append_right (by rw [← h.1]; omega)] at hu
    have h0 : i - xs.length = 0 := by
      rcases Nat.eq_zero_or_pos (i - xs.length) with h | h
      · exact h
      · rw [List.getElem?_eq_none (by simp; omega)] at hy; cases hy
    rw [h0] at hy
    rw [← h.1, h0] at hu
    simp only [List.getElem?_cons_zero, Option.some.injEq] at hy hu
    subst hy; subst hu
    exact ho
theorem ecells_snoc {xs : List Ent} {vs : List Value} (h : xs.length = vs.length) (x : Ent) (v : Value) : ecells (xs ++ [x]) (vs ++ [v]) = ecells xs vs ++ (x.cells v).toList := by
  unfold ecells
  rw [List.zipWith_append h]; simp
theorem ent_one (x : Ent) (ao : Option Addr) (n cap : Nat) : ∀ u ∈ (x.cells (.slice ao n cap)).toList, u.oneCell' = true := by
  intro u hu
  simp only [Ent.cells, List.mem_cons, List.not_mem_nil, or_false] at hu
  rcases hu with rfl | rfl | rfl | rfl | rfl | rfl <;> rfl
theorem Tryd.info_entry : (Tryd.prog.info? 24).map (fun i => (i.zero, i.size, i.bytes)) = some (some (.agg #[.int .i64 0, .int .i64 0, .int .i64 0, .string ⟨#[]⟩, .slice none 0 0, .int .i64 0]), 6, 72) := by kernel_rfl

set_option maxRecDepth 20000 in
set_option maxHeartbeats 2000000 in
theorem rg_entries {base : Nat} {wz w : World} {p : Nat} {ao : Option Addr} {n cap : Nat} {bs : List Nat} {s : Nat × Nat} (h : Rg base wz w p ao n cap bs s) :
    Calls Tryd.prog 69 #[.pointer (some ⟨p, 0, none⟩)] w fun e w' => ∃ v vs, e = .returned v ∧ w'.ownsRow w.heap.size 24 6 v (rentries bs s).1.length (ecells (rentries bs s).1 vs) ∧ Mems w.heap.size w' (rentries bs s).1 vs ∧ Rg base wz w' p ao n cap bs (rentries bs s).2 ∧ Only base [113] w w' := by
  have U := hide (rg_rule 6 (by decide) (Rg.start h.1 h.2.1 h.2.2.1))
  have hbase := h.2.2.1
  have hk := rrule_le bs 6 s
  have E1 : Hid (rentries bs s = rentriesN bs (rrule bs 6 s).1 (rrule bs 6 s).2) := by show _ = _; rfl
  have H0 := hide h
  clear h
  generalize rrule bs 6 s = r at *
  obtain ⟨k, t⟩ := r
  obtain ⟨i0, hi, hz0, hz1, hz2⟩ := info_parts Tryd.info_entry
  go_enter Tryd.func69, Tryd.ntmps69
  go_wp2_with fail
  refine (unhide U).mono ?_
  rintro e w1 ⟨rfl, r1, k1⟩
  have R1 := hide r1
  have s1 : w.heap.size ≤ w1.heap.size := k1.size
  clear U r1 k1
  go_wp2_with fail
  go_loopg [3, 6] k (fun g lv iv wr => ∃ (j : Nat) (vs : List Value), j + g = k ∧ iv = .int .i64 (j : Int) ∧ wr.ownsRow w.heap.size 24 6 lv j (ecells (rentriesN bs j t).1 vs) ∧ Mems w.heap.size wr (rentriesN bs j t).1 vs ∧ Rg base w wr p ao n cap bs (rentriesN bs j t).2)
  case atStart => exact ⟨0, [], by omega, rfl, World.ownsRow_nil _ _ _ _, Mems.nil _ _, unhide R1⟩
  case round =>
    obtain ⟨j, vs, hj, rfl, ho, hm, hr⟩ := hrel
    have HJ := hide hj
    have HO := hide ho
    have HM := hide hm
    have HR := hide hr
    have sr : w.heap.size ≤ wr.heap.size := hr.2.2.2.size
    have hjk : j ≤ k := by omega
    clear hj ho hm hr
    by_cases hlt : j < k
    · have I := hide (rg_entry (unhide HR))
      have ER : Hid (rentriesN bs (j + 1) t = ((rentriesN bs j t).1 ++ [(rentry bs (rentriesN bs j t).2).1], (rentry bs (rentriesN bs j t).2).2)) := by show _ = _; rfl
      generalize rentry bs (rentriesN bs j t).2 = r at *
      generalize (rentriesN bs j t).1 = xs at *
      obtain ⟨x, u⟩ := r
      go_wp2_with fail
      refine (unhide I).mono ?_
      rintro e w2 ⟨v2, rfl, o2, r2, k2⟩
      obtain ⟨ao2, cap2, rfl⟩ := row_slice o2
      have O2 := hide (own_only (unhide HO) k2 (by decide))
      have M2 := hide (((unhide HM).only k2 (by decide)).snoc (own_wide o2 sr))
      have R2 := hide r2
      have s2 : w.heap.size ≤ w2.heap.size := Nat.le_trans sr k2.size
      have EC := hide (ecells_snoc (unhide HM).1 x (.slice ao2 x.members.length cap2))
      have ON := hide (ent_one x ao2 x.members.length cap2)
      simp only [Ent.cells] at ON EC
      show _
      clear I r2 k2 o2 HO HM HR
      simp only [Ent.cells]
      generalize x.members.length = nx at *
      go_wp2_with (at_builtin; refine wpList_append_own _ rfl (.tmp 8) (.tmp 11) 37 rfl w.heap.size 24 i0 _ 6 72 Tryd.underlying37 hi hz0 hz1 hz2 rfl (by decide) _ _ _ rfl ((unhide O2).alloc _) ⟨w2.heap.size, 0, none⟩ 1 1 _ rfl rfl news_at (unhide ON) (by unfold maxLen; omega) (by omega) (by simp; omega) ?_)
      intro v3 w3 own3 grow3 _
      have p3 := (Only.refl w.heap.size [24] w2).alloc s2 (.cells #[.int .i64 x.kind, .int .i64 x.client, .int .i64 x.seq, .string (str x.data), .slice ao2 nx cap2, .int .i64 x.to'] 24)
      have p4 := p3.own ((unhide O2).alloc _) grow3 (by simp; omega) (Nat.le_refl _) (by simp)
      have k4 := (unhide R2).2.2.2.fresh p4.below hbase
      have R3 : Hid (Rg base w w3 p ao n cap bs u) := ⟨(unhide R2).1.own p4 (by decide) (by decide), (unhide H0).2.1.only k4, Nat.le_trans hbase k4.size, k4⟩
      have O3 := hide own3
      have M3 := hide ((unhide M2).only p4 (by decide))
      clear own3 grow3 p3 p4 k4 R2 O2 M2
      go_wp2
      go_roundg (k - (j + 1))
      case measure => have := unhide HJ; omega
      case rel =>
        refine ⟨j + 1, _, by omega, by go_num, ?_, by rw [unhide ER]; exact unhide M3, by rw [unhide ER]; exact unhide R3⟩
        rw [unhide ER, unhide EC]
        exact unhide O3
    · have ej : j = k := by omega
      subst ej
      go_wp2
      go_ret
      have hr := unhide HR
      refine ⟨_, vs, rfl, ?_, ?_, ?_, hr.2.2.2⟩
      · rw [unhide E1]; simp only [rentriesN_len]; exact unhide HO
      · rw [unhide E1]; exact unhide HM
      · rw [unhide E1]; exact (unhide H0).next hr.1 hr.2.2.2
end Go.Proofs.YtjcllplgiffmgaaDoor
