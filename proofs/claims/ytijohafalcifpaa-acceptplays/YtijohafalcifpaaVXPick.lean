/- synodalref13.Pick: a contract. -/
import Derived.Test.YtijohafalcifpaaVPick
namespace Go.Proofs.Ytijohafalcifpaa
open Go.RowKit Go.Maps

/-- how far the reference's Pick has come. -/
def Xst (vs : List Vt) (slot : Int) (k : Nat) (av : Value) : Prop := (best vs slot k = none ∧ av = .int .i64 (-1)) ∨ ∃ b : Nat, best vs slot k = some b ∧ av = .int .i64 (b : Int)

set_option maxRecDepth 20000 in
set_option maxHeartbeats 4000000 in
theorem xpick_any (low base : Nat) (ao : Option Addr) (n cap : Nat) (vs : List Vt) (hn : vs.length = n) (hl : n ≤ 1000000) (slot : Int) (w : World) (h : VsR low base w ao vs) :
    Calls Try.prog 19 #[.slice ao n cap, .int .i64 slot] w fun x w' => PickOut (pickOf vs slot) (fun mo mc e => Mm low base w' mo mc e.ms ∧ e.ms.length ≤ 1000000) x ∧ Below w.heap.size w w' := by
  obtain ⟨W, hW⟩ : ∃ W, w.alloc (.cells #[.int .i64 0, .int .i64 0, .int .i64 0, .string ⟨#[]⟩, .slice none 0 0, .int .i64 0] 32) = W := ⟨_, rfl⟩
  have bW : Below w.heap.size w W := by rw [← hW]; exact (Below.refl _ w).alloc (Nat.le_refl _) _
  have x0 : W.heap[w.heap.size]? = some (.cells #[.int .i64 0, .int .i64 0, .int .i64 0, .string ⟨#[]⟩, .slice none 0 0, .int .i64 0] 32 (0, 0)) := by rw [← hW]; exact box_at _ _
  obtain ⟨r, hr⟩ : ∃ r, pickOf vs slot = r := ⟨_, rfl⟩
  rw [hr]
  have HR := hide hr
  clear hr
  have H0 := hide h
  have HV := hide (h.below bW)
  have HN := hide hn
  have BW := hide bW
  have X0 := hide x0
  have HW := hide hW
  clear h hn bW x0 hW
  go_enter Try.func19, Try.ntmps19
  go_upto_region 1 with fail
  rw [unhide HW]
  go_wp2_with fail
  go_loopw [6, 7] (fun av iv wr => ∃ k : Nat, k ≤ n ∧ iv = .int .i64 (k : Int) ∧ Xst vs slot k av ∧ Below W.heap.size W wr) (fun _ iv _ => n - (intOf iv).toNat)
  case atStart => exact ⟨0, Nat.zero_le _, rfl, Or.inl ⟨rfl, rfl⟩, Below.refl _ _⟩
  case round =>
    obtain ⟨k, hk, rfl, hst, hbel⟩ := hrel
    have B := hide hbel
    clear hbel
    by_cases hlt : k < n
    · obtain ⟨v, hv⟩ : ∃ v, vs[k]? = some v := ⟨_, List.getElem?_eq_getElem (by rw [unhide HN]; exact hlt)⟩
      obtain ⟨g, off, mo, mc, rfl, c0, c1, -⟩ := ((unhide HV).below (unhide B)).at hv
      have hq : (k : Int) < (n : Int) := by omega
      have STEP := hide (best_step (slot := slot) hv)
      have V1 := hide ((unhide HV).below (unhide B))
      clear hv
      obtain ⟨vslot, hvs⟩ : ∃ y, v.slot = y := ⟨_, rfl⟩
      obtain ⟨vbal, hvb⟩ : ∃ y, v.ballot = y := ⟨_, rfl⟩
      rw [hvs] at c0
      rw [hvb] at c1
      rw [hvs, hvb] at STEP
      clear hvs hvb
      go_upto_region 5 with fail
      rcases hst with ⟨hb0, rfl⟩ | ⟨b, hb0, rfl⟩
      · rw [hb0] at STEP
        have S2 := hide (unhide STEP)
        clear STEP hb0
        by_cases hs : vslot = slot
        · subst hs
          have S3 : Hid (best vs vslot (k + 1) = some k) := hide (by have := unhide S2; simpa using this)
          clear S2
          refine wp_region_quiet_lit (by kernel_rfl) (by kernel_rfl) ?_
          repeat (
            with_reducible refine wpQuiet_step (fun K hK => ?_)
            go_simp
            first
              | (refine hK _ ?_; clear hK K)
              | (apply Exists.intro
                 refine ⟨fun _ => ?_, hK _ ?_⟩
                 (fail)
                 clear hK K))
          refine wpQuiet_nil ?_
          rintro wq ⟨nq, rfl⟩
          go_wp2
          go_roundw
          case rel => exact ⟨k + 1, by omega, by go_num, Or.inr ⟨k, unhide S3, rfl⟩, (unhide B).trans ((drewN_below _ _).mono (unhide B).size)⟩
          case measure => simp [intOf]; omega
        · have S3 : Hid (best vs slot (k + 1) = none) := hide (by have := unhide S2; simpa [hs] using this)
          clear S2
          refine wp_region_quiet_lit (by kernel_rfl) (by kernel_rfl) ?_
          repeat (
            with_reducible refine wpQuiet_step (fun K hK => ?_)
            go_simp
            first
              | (refine hK _ ?_; clear hK K)
              | (apply Exists.intro
                 refine ⟨fun _ => ?_, hK _ ?_⟩
                 (fail)
                 clear hK K))
          refine wpQuiet_nil ?_
          rintro wq ⟨nq, rfl⟩
          go_wp2
          go_roundw
          case rel => exact ⟨k + 1, by omega, by go_num, Or.inl ⟨unhide S3, rfl⟩, (unhide B).trans ((drewN_below _ _).mono (unhide B).size)⟩
          case measure => simp [intOf]; omega
      · rw [hb0] at STEP
        have hbl := best_lt hb0
        obtain ⟨u, hu⟩ : ∃ u, vs[b]? = some u := ⟨_, List.getElem?_eq_getElem hbl.2⟩
        obtain ⟨g', off', mo', mc', e', -, d1, -⟩ := (unhide V1).at hu
        cases e'
        have S2 := unhide STEP
        simp only [balAt_some hu] at S2
        obtain ⟨ub, hub⟩ : ∃ y, u.ballot = y := ⟨_, rfl⟩
        rw [hub] at d1 S2
        have hbn : (b : Int) < (n : Int) := by have := unhide HN; omega
        have hbk : b < n := by omega
        have hb1 : ¬ ((b : Int) < 0) := by omega
        clear hbl hu hb0 STEP
        by_cases hs : vslot = slot ∧ ub < vbal
        · obtain ⟨rfl, hlt2⟩ := hs
          have S3 : Hid (best vs vslot (k + 1) = some k) := hide (by simpa [hlt2] using S2)
          clear S2
          refine wp_region_quiet_lit (by kernel_rfl) (by kernel_rfl) ?_
          repeat (
            with_reducible refine wpQuiet_step (fun K hK => ?_)
            go_simp
            first
              | (refine hK _ ?_; clear hK K)
              | (apply Exists.intro
                 refine ⟨fun _ => ?_, hK _ ?_⟩
                 (fail)
                 clear hK K))
          refine wpQuiet_nil ?_
          rintro wq ⟨nq, rfl⟩
          go_wp2
          go_roundw
          case rel => exact ⟨k + 1, by omega, by go_num, Or.inr ⟨k, unhide S3, rfl⟩, (unhide B).trans ((drewN_below _ _).mono (unhide B).size)⟩
          case measure => simp [intOf]; omega
        · have S3 : Hid (best vs slot (k + 1) = some b) := hide (by simpa [hs] using S2)
          clear S2
          by_cases hs2 : vslot = slot
          · subst hs2
            have hge : ¬ ub < vbal := fun x => hs ⟨rfl, x⟩
            clear hs
            refine wp_region_quiet_lit (by kernel_rfl) (by kernel_rfl) ?_
            repeat (
              with_reducible refine wpQuiet_step (fun K hK => ?_)
              go_simp
              first
                | (refine hK _ ?_; clear hK K)
                | (apply Exists.intro
                   refine ⟨fun _ => ?_, hK _ ?_⟩
                   (fail)
                   clear hK K))
            refine wpQuiet_nil ?_
            rintro wq ⟨nq, rfl⟩
            go_wp2
            go_roundw
            case rel => exact ⟨k + 1, by omega, by go_num, Or.inr ⟨b, unhide S3, rfl⟩, (unhide B).trans ((drewN_below _ _).mono (unhide B).size)⟩
            case measure => simp [intOf]; omega
          · clear hs
            refine wp_region_quiet_lit (by kernel_rfl) (by kernel_rfl) ?_
            repeat (
              with_reducible refine wpQuiet_step (fun K hK => ?_)
              go_simp
              first
                | (refine hK _ ?_; clear hK K)
                | (apply Exists.intro
                   refine ⟨fun _ => ?_, hK _ ?_⟩
                   (fail)
                   clear hK K))
            refine wpQuiet_nil ?_
            rintro wq ⟨nq, rfl⟩
            go_wp2
            go_roundw
            case rel => exact ⟨k + 1, by omega, by go_num, Or.inr ⟨b, unhide S3, rfl⟩, (unhide B).trans ((drewN_below _ _).mono (unhide B).size)⟩
            case measure => simp [intOf]; omega
    · obtain rfl : k = n := by omega
      have y0 := Below.stay (unhide B) (unhide X0)
      have z0 : wr.cell? ⟨w.heap.size, 0, none⟩ = some (.int .i64 0) := (cell_of_block y0).trans rfl
      have z1 : wr.cell? ⟨w.heap.size, 1, none⟩ = some (.int .i64 0) := (cell_of_block y0).trans rfl
      have z2 : wr.cell? ⟨w.heap.size, 2, none⟩ = some (.int .i64 0) := (cell_of_block y0).trans rfl
      have z3 : wr.cell? ⟨w.heap.size, 3, none⟩ = some (.string ⟨#[]⟩) := (cell_of_block y0).trans rfl
      have z4 : wr.cell? ⟨w.heap.size, 4, none⟩ = some (.slice none 0 0) := (cell_of_block y0).trans rfl
      have z5 : wr.cell? ⟨w.heap.size, 5, none⟩ = some (.int .i64 0) := (cell_of_block y0).trans rfl
      have fz : ∀ i, wr.frozen? ⟨w.heap.size, i, none⟩ = false := fun i => free_of_block y0
      have Y0 := hide y0
      clear y0
      rcases hst with ⟨hb0, rfl⟩ | ⟨b, hb0, rfl⟩
      · obtain rfl : r = none := (unhide HR).symm.trans (pickOf_none (by rw [unhide HN]; exact hb0))
        clear hb0
        go_wp2
        obtain ⟨V, hV⟩ : ∃ V : World, V = ((((((wr.setCell ⟨w.heap.size, 0, none⟩ (.int .i64 0)).setCell ⟨w.heap.size, 1, none⟩ (.int .i64 0)).setCell ⟨w.heap.size, 2, none⟩ (.int .i64 0)).setCell ⟨w.heap.size, 3, none⟩ (.string ⟨#[]⟩)).setCell ⟨w.heap.size, 4, none⟩ (.slice none 0 0)).setCell ⟨w.heap.size, 5, none⟩ (.int .i64 0)) := ⟨_, rfl⟩
        rw [← hV]
        obtain ⟨hh, bV, kV⟩ := six_end (unhide Y0) (Nat.le_refl _) (below_far (unhide BW) (unhide B)) V hV
        have d0 : V.cell? ⟨w.heap.size, 0, none⟩ = some (.int .i64 0) := (cell_of_block hh).trans rfl
        have d1 : V.cell? ⟨w.heap.size, 1, none⟩ = some (.int .i64 0) := (cell_of_block hh).trans rfl
        have d2 : V.cell? ⟨w.heap.size, 2, none⟩ = some (.int .i64 0) := (cell_of_block hh).trans rfl
        have d3 : V.cell? ⟨w.heap.size, 3, none⟩ = some (.string ⟨#[]⟩) := (cell_of_block hh).trans rfl
        have d4 : V.cell? ⟨w.heap.size, 4, none⟩ = some (.slice none 0 0) := (cell_of_block hh).trans rfl
        have d5 : V.cell? ⟨w.heap.size, 5, none⟩ = some (.int .i64 0) := (cell_of_block hh).trans rfl
        refine bodyPost_ret (v := .tuple #[.agg #[.int .i64 0, .int .i64 0, .int .i64 0, .string ⟨#[]⟩, .slice none 0 0, .int .i64 0], .bool false]) (by simp [results, Try.results19, go_sem, d0, d1, d2, d3, d4, d5]) rfl ⟨?_, bV⟩
        exact rfl
      · have hbl := best_lt hb0
        obtain ⟨v, hv⟩ : ∃ v, vs[b]? = some v := ⟨_, List.getElem?_eq_getElem hbl.2⟩
        obtain rfl : r = some v := (unhide HR).symm.trans (pickOf_some (by rw [unhide HN]; exact hb0) hv)
        obtain ⟨g, off, mo, mc, rfl, -, -, a2, a3, a4, a5, a6, a7, hmm, hml⟩ := (unhide H0).at hv
        have bb := below_far (unhide BW) (unhide B)
        have c2 : wr.cell? _ = _ := (bb.cell (blk_lt a2)).trans a2
        have c3 : wr.cell? _ = _ := (bb.cell (blk_lt a3)).trans a3
        have c4 : wr.cell? _ = _ := (bb.cell (blk_lt a4)).trans a4
        have c5 : wr.cell? _ = _ := (bb.cell (blk_lt a5)).trans a5
        have c6 : wr.cell? _ = _ := (bb.cell (blk_lt a6)).trans a6
        have c7 : wr.cell? _ = _ := (bb.cell (blk_lt a7)).trans a7
        clear a2 a3 a4 a5 a6 a7 bb
        have MM := hide hmm
        have HML := hide hml
        have hbn : (b : Int) < (k : Int) := by omega
        have hb1 : ¬ ((b : Int) < 0) := by omega
        clear hmm hml hbl hv hb0
        go_wp2
        obtain ⟨V, hV⟩ : ∃ V : World, V = ((((((wr.setCell ⟨w.heap.size, 0, none⟩ (.int .i64 v.e.kind)).setCell ⟨w.heap.size, 1, none⟩ (.int .i64 v.e.client)).setCell ⟨w.heap.size, 2, none⟩ (.int .i64 v.e.seq)).setCell ⟨w.heap.size, 3, none⟩ (.string v.e.text)).setCell ⟨w.heap.size, 4, none⟩ (.slice mo v.e.ms.length mc)).setCell ⟨w.heap.size, 5, none⟩ (.int .i64 v.e.dest)) := ⟨_, rfl⟩
        rw [← hV]
        obtain ⟨hh, bV, kV⟩ := six_end (unhide Y0) (Nat.le_refl _) (below_far (unhide BW) (unhide B)) V hV
        have d0 : V.cell? ⟨w.heap.size, 0, none⟩ = some (.int .i64 v.e.kind) := (cell_of_block hh).trans rfl
        have d1 : V.cell? ⟨w.heap.size, 1, none⟩ = some (.int .i64 v.e.client) := (cell_of_block hh).trans rfl
        have d2 : V.cell? ⟨w.heap.size, 2, none⟩ = some (.int .i64 v.e.seq) := (cell_of_block hh).trans rfl
        have d3 : V.cell? ⟨w.heap.size, 3, none⟩ = some (.string v.e.text) := (cell_of_block hh).trans rfl
        have d4 : V.cell? ⟨w.heap.size, 4, none⟩ = some (.slice mo v.e.ms.length mc) := (cell_of_block hh).trans rfl
        have d5 : V.cell? ⟨w.heap.size, 5, none⟩ = some (.int .i64 v.e.dest) := (cell_of_block hh).trans rfl
        refine bodyPost_ret (v := .tuple #[.agg #[.int .i64 v.e.kind, .int .i64 v.e.client, .int .i64 v.e.seq, .string v.e.text, .slice mo v.e.ms.length mc, .int .i64 v.e.dest], .bool true]) (by simp [results, Try.results19, go_sem, d0, d1, d2, d3, d4, d5]) rfl ⟨?_, bV⟩
        exact ⟨_, _, rfl, (unhide MM).below bV, unhide HML⟩
end Go.Proofs.Ytijohafalcifpaa
