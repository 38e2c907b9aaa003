/- accept.Pick: a contract. -/
import Derived.Test.YtijohafalcifpaaVTwin
import Derived.Test.YtijohafalcifpaaVPure
namespace Go.Proofs.Ytijohafalcifpaa
open Go.RowKit Go.Maps

theorem field_entry (v0 v1 v2 v3 v4 v5 v6 v7 : Value) (w : World) : (Instr.field 54 (.agg #[v0, v1, v2, v3, v4, v5, v6, v7]) 2).run Try.prog w = .ok (.agg #[v2, v3, v4, v5, v6, v7]) w := by kernel_rfl
/-- a store of a whole entry. -/
theorem six_end {w y : World} {B : Nat} {v0 v1 v2 v3 v4 v5 : Value} {z0 z1 z2 z3 z4 z5 : Value} {t : TypeId} (hz : y.heap[B]? = some (.cells #[z0, z1, z2, z3, z4, z5] t (0, 0))) (hB : w.heap.size ≤ B) (hb : Below w.heap.size w y) (W : World)
    (hW : W = ((((((y.setCell ⟨B, 0, none⟩ v0).setCell ⟨B, 1, none⟩ v1).setCell ⟨B, 2, none⟩ v2).setCell ⟨B, 3, none⟩ v3).setCell ⟨B, 4, none⟩ v4).setCell ⟨B, 5, none⟩ v5)) :
    W.heap[B]? = some (.cells #[v0, v1, v2, v3, v4, v5] t (0, 0)) ∧ Below w.heap.size w W ∧ ∀ k, k ≠ B → W.heap[k]? = y.heap[k]? := by
  obtain ⟨y0, e0⟩ : ∃ x, (y.setCell ⟨B, 0, none⟩ v0) = x := ⟨_, rfl⟩
  have h0 : y0.heap[B]? = some (.cells #[v0, z1, z2, z3, z4, z5] t (0, 0)) := by rw [← e0]; exact setCell_block hz
  have b0 : Below w.heap.size w y0 := by rw [← e0]; exact hb.setCell (p := ⟨B, 0, none⟩) hB v0
  have k0 : ∀ k, k ≠ B → y0.heap[k]? = y.heap[k]? := fun k hk => by rw [← e0, Below.heap_setCell _ _ _ k hk]
  obtain ⟨y1, e1⟩ : ∃ x, (y0.setCell ⟨B, 1, none⟩ v1) = x := ⟨_, rfl⟩
  have h1 : y1.heap[B]? = some (.cells #[v0, v1, z2, z3, z4, z5] t (0, 0)) := by rw [← e1]; exact setCell_block h0
  have b1 : Below w.heap.size w y1 := by rw [← e1]; exact b0.setCell (p := ⟨B, 1, none⟩) hB v1
  have k1 : ∀ k, k ≠ B → y1.heap[k]? = y.heap[k]? := fun k hk => by rw [← e1, Below.heap_setCell _ _ _ k hk]; exact k0 k hk
  obtain ⟨y2, e2⟩ : ∃ x, (y1.setCell ⟨B, 2, none⟩ v2) = x := ⟨_, rfl⟩
  have h2 : y2.heap[B]? = some (.cells #[v0, v1, v2, z3, z4, z5] t (0, 0)) := by rw [← e2]; exact setCell_block h1
  have b2 : Below w.heap.size w y2 := by rw [← e2]; exact b1.setCell (p := ⟨B, 2, none⟩) hB v2
  have k2 : ∀ k, k ≠ B → y2.heap[k]? = y.heap[k]? := fun k hk => by rw [← e2, Below.heap_setCell _ _ _ k hk]; exact k1 k hk
  obtain ⟨y3, e3⟩ : ∃ x, (y2.setCell ⟨B, 3, none⟩ v3) = x := ⟨_, rfl⟩
  have h3 : y3.heap[B]? = some (.cells #[v0, v1, v2, v3, z4, z5] t (0, 0)) := by rw [← e3]; exact setCell_block h2
  have b3 : Below w.heap.size w y3 := by rw [← e3]; exact b2.setCell (p := ⟨B, 3, none⟩) hB v3
  have k3 : ∀ k, k ≠ B → y3.heap[k]? = y.heap[k]? := fun k hk => by rw [← e3, Below.heap_setCell _ _ _ k hk]; exact k2 k hk
  obtain ⟨y4, e4⟩ : ∃ x, (y3.setCell ⟨B, 4, none⟩ v4) = x := ⟨_, rfl⟩
  have h4 : y4.heap[B]? = some (.cells #[v0, v1, v2, v3, v4, z5] t (0, 0)) := by rw [← e4]; exact setCell_block h3
  have b4 : Below w.heap.size w y4 := by rw [← e4]; exact b3.setCell (p := ⟨B, 4, none⟩) hB v4
  have k4 : ∀ k, k ≠ B → y4.heap[k]? = y.heap[k]? := fun k hk => by rw [← e4, Below.heap_setCell _ _ _ k hk]; exact k3 k hk
  obtain ⟨y5, e5⟩ : ∃ x, (y4.setCell ⟨B, 5, none⟩ v5) = x := ⟨_, rfl⟩
  have h5 : y5.heap[B]? = some (.cells #[v0, v1, v2, v3, v4, v5] t (0, 0)) := by rw [← e5]; exact setCell_block h4
  have b5 : Below w.heap.size w y5 := by rw [← e5]; exact b4.setCell (p := ⟨B, 5, none⟩) hB v5
  have k5 : ∀ k, k ≠ B → y5.heap[k]? = y.heap[k]? := fun k hk => by rw [← e5, Below.heap_setCell _ _ _ k hk]; exact k4 k hk
  rw [e0, e1, e2, e3, e4, e5] at hW
  subst hW
  exact ⟨h5, b5, k5⟩
/-- what Pick answers. -/
def PickOut (r : Option Vt) (P : Option Addr → Nat → En → Prop) (x : Ending) : Prop := match r with
  | none => x = .returned (.tuple #[.agg #[.int .i64 0, .int .i64 0, .int .i64 0, .string ⟨#[]⟩, .slice none 0 0, .int .i64 0], .bool false])
  | some v => ∃ mo mc, x = .returned (.tuple #[.agg #[.int .i64 v.e.kind, .int .i64 v.e.client, .int .i64 v.e.seq, .string v.e.text, .slice mo v.e.ms.length mc, .int .i64 v.e.dest], .bool true]) ∧ P mo mc v.e
theorem pickOf_some {l : List Vt} {slot : Int} {b : Nat} {v : Vt} (h : best l slot l.length = some b) (hv : l[b]? = some v) : pickOf l slot = some v := by unfold pickOf; rw [h]; exact hv
theorem pickOf_none {l : List Vt} {slot : Int} (h : best l slot l.length = none) : pickOf l slot = none := by unfold pickOf; rw [h]
/-- how far Pick has come. -/
def Pst (vs : List Vt) (slot : Int) (k : Nat) (av fv : Value) : Prop := (best vs slot k = none ∧ av = .int .i64 0 ∧ fv = .bool false) ∨ ∃ b : Nat, best vs slot k = some b ∧ av = .int .i64 (b : Int) ∧ fv = .bool true

set_option maxRecDepth 20000 in
set_option maxHeartbeats 4000000 in
theorem pick_any (low base : Nat) (ao : Option Addr) (n cap : Nat) (vs : List Vt) (hn : vs.length = n) (hl : n ≤ 1000000) (slot : Int) (w : World) (h : VsR low base w ao vs) :
    Calls Try.prog 18 #[.slice ao n cap, .int .i64 slot] w fun x w' => PickOut (pickOf vs slot) (fun mo mc e => Ir w.heap.size w' (.slice mo e.ms.length mc) e.ms) x ∧ Below w.heap.size w w' := by
  obtain ⟨W, hW⟩ : ∃ W, w.alloc (.cells #[.int .i64 0, .int .i64 0, .int .i64 0, .string ⟨#[]⟩, .slice none 0 0, .int .i64 0] 32) = W := ⟨_, rfl⟩
  have bW : Below w.heap.size w W := by rw [← hW]; exact (Below.refl _ w).alloc (Nat.le_refl _) _
  have x0 : W.heap[w.heap.size]? = some (.cells #[.int .i64 0, .int .i64 0, .int .i64 0, .string ⟨#[]⟩, .slice none 0 0, .int .i64 0] 32 (0, 0)) := by rw [← hW]; exact box_at _ _
  obtain ⟨r, hr⟩ : ∃ r, pickOf vs slot = r := ⟨_, rfl⟩
  rw [hr]
  have HR := hide hr
  clear hr
  have HV := hide (h.below bW)
  have HN := hide hn
  have BW := hide bW
  have X0 := hide x0
  have HW := hide hW
  clear h hn bW x0 hW
  go_enter Try.func18, Try.ntmps18
  go_upto_region 1 with fail
  rw [unhide HW]
  go_wp2_with fail
  go_loopw [6, 7, 12] (fun av fv iv wr => ∃ k : Nat, k ≤ n ∧ iv = .int .i64 (k : Int) ∧ Pst vs slot k av fv ∧ Below W.heap.size W wr) (fun _ _ iv _ => n - (intOf iv).toNat)
  case atStart => exact ⟨0, Nat.zero_le _, rfl, Or.inl ⟨rfl, rfl, rfl⟩, Below.refl _ _⟩
  case round =>
    obtain ⟨k, hk, rfl, hst, hbel⟩ := hrel
    have B := hide hbel
    clear hbel
    by_cases hlt : k < n
    · obtain ⟨v, hv⟩ : ∃ v, vs[k]? = some v := ⟨_, List.getElem?_eq_getElem (by rw [unhide HN]; exact hlt)⟩
      obtain ⟨g, off, mo, mc, rfl, c0, c1, c2, c3, c4, c5, c6, c7, hmm, hml⟩ := ((unhide HV).below (unhide B)).at hv
      have hq : (k : Int) < (n : Int) := by omega
      obtain ⟨W1, hW1⟩ : ∃ W1, wr.alloc (.cells #[.int .i64 v.slot, .int .i64 v.ballot, .int .i64 v.e.kind, .int .i64 v.e.client, .int .i64 v.e.seq, .string v.e.text, .slice mo v.e.ms.length mc, .int .i64 v.e.dest] 54) = W1 := ⟨_, rfl⟩
      have b1 : Below wr.heap.size wr W1 := by rw [← hW1]; exact (Below.refl _ wr).alloc (Nat.le_refl _) _
      have x1 : W1.heap[wr.heap.size]? = some (.cells #[.int .i64 v.slot, .int .i64 v.ballot, .int .i64 v.e.kind, .int .i64 v.e.client, .int .i64 v.e.seq, .string v.e.text, .slice mo v.e.ms.length mc, .int .i64 v.e.dest] 54 (0, 0)) := by rw [← hW1]; exact box_at _ _
      have d0 : W1.cell? ⟨wr.heap.size, 0, none⟩ = some (.int .i64 v.slot) := (cell_of_block x1).trans rfl
      have d1 : W1.cell? ⟨wr.heap.size, 1, none⟩ = some (.int .i64 v.ballot) := (cell_of_block x1).trans rfl
      have HW1 := hide hW1
      have B1 := hide (below_far (unhide B) b1)
      have STEP := hide (best_step (slot := slot) hv)
      have V1 := hide ((unhide HV).below (unhide B1))
      clear hW1 b1 x1 hmm hml hv
      go_upto_region 5 with fail
      rw [unhide HW1]
      clear c0 c1 c2 c3 c4 c5 c6 c7
      obtain ⟨vslot, hvs⟩ : ∃ y, v.slot = y := ⟨_, rfl⟩
      obtain ⟨vbal, hvb⟩ : ∃ y, v.ballot = y := ⟨_, rfl⟩
      rw [hvs] at d0
      rw [hvb] at d1
      rw [hvs, hvb] at STEP
      clear hvs hvb
      rcases hst with ⟨hb0, rfl, rfl⟩ | ⟨b, hb0, rfl, rfl⟩
      · rw [hb0] at STEP
        have S2 := hide (unhide STEP)
        clear STEP hb0
        by_cases hs : vslot = slot
        · subst hs
          have S3 : Hid (best vs vslot (k + 1) = some k) := hide (by have := unhide S2; simpa using this)
          clear S2
          refine wp_region_quiet_lit (by kernel_rfl) (by kernel_rfl) ?_
          repeat (
            with_reducible refine wpQuiet_step (fun K hK => ?_)
            go_simp
            first
              | (refine hK _ ?_; clear hK K)
              | (apply Exists.intro
                 refine ⟨fun _ => ?_, hK _ ?_⟩
                 (fail)
                 clear hK K))
          refine wpQuiet_nil ?_
          rintro wq ⟨nq, rfl⟩
          go_wp2
          go_roundw
          case rel => exact ⟨k + 1, by omega, by go_num, Or.inr ⟨k, unhide S3, rfl, rfl⟩, (unhide B1).trans ((drewN_below _ _).mono (unhide B1).size)⟩
          case measure => simp [intOf]; omega
        · have S3 : Hid (best vs slot (k + 1) = none) := hide (by have := unhide S2; simpa [hs] using this)
          clear S2
          refine wp_region_quiet_lit (by kernel_rfl) (by kernel_rfl) ?_
          repeat (
            with_reducible refine wpQuiet_step (fun K hK => ?_)
            go_simp
            first
              | (refine hK _ ?_; clear hK K)
              | (apply Exists.intro
                 refine ⟨fun _ => ?_, hK _ ?_⟩
                 (fail)
                 clear hK K))
          refine wpQuiet_nil ?_
          rintro wq ⟨nq, rfl⟩
          go_wp2
          go_roundw
          case rel => exact ⟨k + 1, by omega, by go_num, Or.inl ⟨unhide S3, rfl, rfl⟩, (unhide B1).trans ((drewN_below _ _).mono (unhide B1).size)⟩
          case measure => simp [intOf]; omega
      · rw [hb0] at STEP
        have hbl := best_lt hb0
        obtain ⟨u, hu⟩ : ∃ u, vs[b]? = some u := ⟨_, List.getElem?_eq_getElem hbl.2⟩
        obtain ⟨g', off', mo', mc', e', -, c1, -⟩ := (unhide V1).at hu
        cases e'
        have S2 := unhide STEP
        simp only [balAt_some hu] at S2
        obtain ⟨ub, hub⟩ : ∃ y, u.ballot = y := ⟨_, rfl⟩
        rw [hub] at c1 S2
        have hbn : (b : Int) < (n : Int) := by have := unhide HN; omega
        have hbk : b < n := by omega
        clear hbl hu hb0 STEP
        by_cases hs : vslot = slot ∧ ub < vbal
        · obtain ⟨rfl, hlt2⟩ := hs
          have S3 : Hid (best vs vslot (k + 1) = some k) := hide (by simpa [hlt2] using S2)
          clear S2
          refine wp_region_quiet_lit (by kernel_rfl) (by kernel_rfl) ?_
          repeat (
            with_reducible refine wpQuiet_step (fun K hK => ?_)
            go_simp
            first
              | (refine hK _ ?_; clear hK K)
              | (apply Exists.intro
                 refine ⟨fun _ => ?_, hK _ ?_⟩
                 (fail)
                 clear hK K))
          refine wpQuiet_nil ?_
          rintro wq ⟨nq, rfl⟩
          go_wp2
          go_roundw
          case rel => exact ⟨k + 1, by omega, by go_num, Or.inr ⟨k, unhide S3, rfl, rfl⟩, (unhide B1).trans ((drewN_below _ _).mono (unhide B1).size)⟩
          case measure => simp [intOf]; omega
        · have S3 : Hid (best vs slot (k + 1) = some b) := hide (by simpa [hs] using S2)
          clear S2
          by_cases hs2 : vslot = slot
          · subst hs2
            have hge : ¬ ub < vbal := fun x => hs ⟨rfl, x⟩
            clear hs
            refine wp_region_quiet_lit (by kernel_rfl) (by kernel_rfl) ?_
            repeat (
              with_reducible refine wpQuiet_step (fun K hK => ?_)
              go_simp
              first
                | (refine hK _ ?_; clear hK K)
                | (apply Exists.intro
                   refine ⟨fun _ => ?_, hK _ ?_⟩
                   (fail)
                   clear hK K))
            refine wpQuiet_nil ?_
            rintro wq ⟨nq, rfl⟩
            go_wp2
            go_roundw
            case rel => exact ⟨k + 1, by omega, by go_num, Or.inr ⟨b, unhide S3, rfl, rfl⟩, (unhide B1).trans ((drewN_below _ _).mono (unhide B1).size)⟩
            case measure => simp [intOf]; omega
          · clear hs
            refine wp_region_quiet_lit (by kernel_rfl) (by kernel_rfl) ?_
            repeat (
              with_reducible refine wpQuiet_step (fun K hK => ?_)
              go_simp
              first
                | (refine hK _ ?_; clear hK K)
                | (apply Exists.intro
                   refine ⟨fun _ => ?_, hK _ ?_⟩
                   (fail)
                   clear hK K))
            refine wpQuiet_nil ?_
            rintro wq ⟨nq, rfl⟩
            go_wp2
            go_roundw
            case rel => exact ⟨k + 1, by omega, by go_num, Or.inr ⟨b, unhide S3, rfl, rfl⟩, (unhide B1).trans ((drewN_below _ _).mono (unhide B1).size)⟩
            case measure => simp [intOf]; omega
    · obtain rfl : k = n := by omega
      rcases hst with ⟨hb0, rfl, rfl⟩ | ⟨b, hb0, rfl, rfl⟩
      · obtain rfl : r = none := (unhide HR).symm.trans (pickOf_none (by rw [unhide HN]; exact hb0))
        have y0 := Below.stay (unhide B) (unhide X0)
        have z0 : wr.cell? ⟨w.heap.size, 0, none⟩ = some (.int .i64 0) := (cell_of_block y0).trans rfl
        have z1 : wr.cell? ⟨w.heap.size, 1, none⟩ = some (.int .i64 0) := (cell_of_block y0).trans rfl
        have z2 : wr.cell? ⟨w.heap.size, 2, none⟩ = some (.int .i64 0) := (cell_of_block y0).trans rfl
        have z3 : wr.cell? ⟨w.heap.size, 3, none⟩ = some (.string ⟨#[]⟩) := (cell_of_block y0).trans rfl
        have z4 : wr.cell? ⟨w.heap.size, 4, none⟩ = some (.slice none 0 0) := (cell_of_block y0).trans rfl
        have z5 : wr.cell? ⟨w.heap.size, 5, none⟩ = some (.int .i64 0) := (cell_of_block y0).trans rfl
        have fz : ∀ i, wr.frozen? ⟨w.heap.size, i, none⟩ = false := fun i => free_of_block y0
        have Y0 := hide y0
        clear hb0 y0
        go_wp2
        obtain ⟨V, hV⟩ : ∃ V : World, V = ((((((wr.setCell ⟨w.heap.size, 0, none⟩ (.int .i64 0)).setCell ⟨w.heap.size, 1, none⟩ (.int .i64 0)).setCell ⟨w.heap.size, 2, none⟩ (.int .i64 0)).setCell ⟨w.heap.size, 3, none⟩ (.string ⟨#[]⟩)).setCell ⟨w.heap.size, 4, none⟩ (.slice none 0 0)).setCell ⟨w.heap.size, 5, none⟩ (.int .i64 0)) := ⟨_, rfl⟩
        rw [← hV]
        obtain ⟨hh, bV, kV⟩ := six_end (unhide Y0) (Nat.le_refl _) (below_far (unhide BW) (unhide B)) V hV
        have d0 : V.cell? ⟨w.heap.size, 0, none⟩ = some (.int .i64 0) := (cell_of_block hh).trans rfl
        have d1 : V.cell? ⟨w.heap.size, 1, none⟩ = some (.int .i64 0) := (cell_of_block hh).trans rfl
        have d2 : V.cell? ⟨w.heap.size, 2, none⟩ = some (.int .i64 0) := (cell_of_block hh).trans rfl
        have d3 : V.cell? ⟨w.heap.size, 3, none⟩ = some (.string ⟨#[]⟩) := (cell_of_block hh).trans rfl
        have d4 : V.cell? ⟨w.heap.size, 4, none⟩ = some (.slice none 0 0) := (cell_of_block hh).trans rfl
        have d5 : V.cell? ⟨w.heap.size, 5, none⟩ = some (.int .i64 0) := (cell_of_block hh).trans rfl
        refine bodyPost_ret (v := .tuple #[.agg #[.int .i64 0, .int .i64 0, .int .i64 0, .string ⟨#[]⟩, .slice none 0 0, .int .i64 0], .bool false]) (by simp [results, Try.results18, go_sem, d0, d1, d2, d3, d4, d5]) rfl ⟨?_, bV⟩
        exact rfl
      · have hbl := best_lt hb0
        obtain ⟨v, hv⟩ : ∃ v, vs[b]? = some v := ⟨_, List.getElem?_eq_getElem hbl.2⟩
        obtain rfl : r = some v := (unhide HR).symm.trans (pickOf_some (by rw [unhide HN]; exact hb0) hv)
        obtain ⟨g, off, mo, mc, rfl, c0, c1, c2, c3, c4, c5, c6, c7, hmm, hml⟩ := ((unhide HV).below (unhide B)).at hv
        have C := twin_any v mo mc wr hmm.ints hml
        simp only [Vt.cells, En.cells] at C
        have CC := hide C
        have y0 := hide (Below.stay (unhide B) (unhide X0))
        have fe := field_entry
        have hbn : (b : Int) < (k : Int) := by omega
        clear C hmm hml hbl hv hb0
        go_wp2_with (go_at_call 26; refine (unhide CC).mono ?_; rintro x w2 ⟨mo2, mc2, rfl, o2, b2⟩; have y2 := Below.stay b2 (unhide y0); have z0 : w2.cell? ⟨w.heap.size, 0, none⟩ = some (.int .i64 0) := (cell_of_block y2).trans rfl; have z1 : w2.cell? ⟨w.heap.size, 1, none⟩ = some (.int .i64 0) := (cell_of_block y2).trans rfl; have z2 : w2.cell? ⟨w.heap.size, 2, none⟩ = some (.int .i64 0) := (cell_of_block y2).trans rfl; have z3 : w2.cell? ⟨w.heap.size, 3, none⟩ = some (.string ⟨#[]⟩) := (cell_of_block y2).trans rfl; have z4 : w2.cell? ⟨w.heap.size, 4, none⟩ = some (.slice none 0 0) := (cell_of_block y2).trans rfl; have z5 : w2.cell? ⟨w.heap.size, 5, none⟩ = some (.int .i64 0) := (cell_of_block y2).trans rfl; have fz : ∀ i, w2.frozen? ⟨w.heap.size, i, none⟩ = false := fun i => free_of_block y2; have Y2 := hide y2; have O2 := hide o2; have B2 := hide (below_far (below_far (unhide BW) (unhide B)) b2); clear o2 b2 y2)
        obtain ⟨V, hV⟩ : ∃ V : World, V = ((((((w2.setCell ⟨w.heap.size, 0, none⟩ (.int .i64 v.e.kind)).setCell ⟨w.heap.size, 1, none⟩ (.int .i64 v.e.client)).setCell ⟨w.heap.size, 2, none⟩ (.int .i64 v.e.seq)).setCell ⟨w.heap.size, 3, none⟩ (.string v.e.text)).setCell ⟨w.heap.size, 4, none⟩ (.slice mo2 v.e.ms.length mc2)).setCell ⟨w.heap.size, 5, none⟩ (.int .i64 v.e.dest)) := ⟨_, rfl⟩
        rw [← hV]
        obtain ⟨hh, bV, kV⟩ := six_end (unhide Y2) (Nat.le_refl _) (unhide B2) V hV
        have d0 : V.cell? ⟨w.heap.size, 0, none⟩ = some (.int .i64 v.e.kind) := (cell_of_block hh).trans rfl
        have d1 : V.cell? ⟨w.heap.size, 1, none⟩ = some (.int .i64 v.e.client) := (cell_of_block hh).trans rfl
        have d2 : V.cell? ⟨w.heap.size, 2, none⟩ = some (.int .i64 v.e.seq) := (cell_of_block hh).trans rfl
        have d3 : V.cell? ⟨w.heap.size, 3, none⟩ = some (.string v.e.text) := (cell_of_block hh).trans rfl
        have d4 : V.cell? ⟨w.heap.size, 4, none⟩ = some (.slice mo2 v.e.ms.length mc2) := (cell_of_block hh).trans rfl
        have d5 : V.cell? ⟨w.heap.size, 5, none⟩ = some (.int .i64 v.e.dest) := (cell_of_block hh).trans rfl
        refine bodyPost_ret (v := .tuple #[.agg #[.int .i64 v.e.kind, .int .i64 v.e.client, .int .i64 v.e.seq, .string v.e.text, .slice mo2 v.e.ms.length mc2, .int .i64 v.e.dest], .bool true]) (by simp [results, Try.results18, go_sem, d0, d1, d2, d3, d4, d5]) rfl ⟨?_, bV⟩
        exact ⟨_, _, rfl, Ir.other (own_mono (unhide O2) (Nat.le_trans (unhide BW).size (unhide B).size)) kV (unhide Y2) (by decide)⟩
end Go.Proofs.Ytijohafalcifpaa
