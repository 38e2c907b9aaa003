/- The walk of WireLong. -/
import Derived.Test.YtfccflgbljklaaaDoorFramed
namespace Go.Proofs.YtfccflgbljklaaaDoor
open Go.RowKit

theorem split_long (by' : Nat) : splitOf 6 [0, 1, 0, 1, by'] = ([], 0, 5) := by
  have h : frameOf [0, 1, 0, 1, by'] = (5, none) := by unfold frameOf; rfl
  exact splitOf_none h (by decide)

set_option maxRecDepth 20000 in
set_option maxHeartbeats 2000000 in
theorem long_walk (more : Int) (b : Nat) (hb : b < 256) (w : World) (hS : Start w) :
    Calls Tryd.prog 8 #[.int .i64 more, .int .u8 b] w fun e w' => e = .returned (.bool true) ∧ Below w.heap.size w w' := by
  obtain ⟨i0, hi, hz0, hz1, hz2⟩ := info_parts Tryd.info5
  obtain ⟨N, hN⟩ : ∃ N : Nat, (N : Int) = 65535 + more % 4 := ⟨(65535 + more % 4).toNat, by omega⟩
  have hn1 : N ≤ 65538 := by omega
  have HN := hide hN
  have HS := hide hS
  have hm0 : 0 ≤ more % 4 := by omega
  have hm4 : more % 4 < 4 := by omega
  clear hN hS
  go_enter Tryd.func8, Tryd.ntmps8
  go_wp2_with fail
  refine (known_any w (unhide HS)).mono ?_
  rintro e w1 ⟨rfl, hb1⟩
  have S1 := hide ((unhide HS).below hb1)
  have B1 := hide hb1
  have s1 := hb1.size
  clear hb1
  go_wp2_with fail
  refine (within_any more 4 w1 (by omega) (by omega)).mono ?_
  rintro e w1' ⟨rfl, rfl⟩
  go_wp2_with (at_make; refine wpList_make_full _ rfl _ _ 27 rfl w.heap.size 5 i0 (.int .u8 0) 1 Tryd.underlying27 hi hz0 hz1 .i64 .i64 _ _ N rfl rfl (unhide HN).symm (unhide HN).symm (by rw [hz2]; omega) (by unfold maxLen; omega) s1 ?_)
  intro w2 hown2 hgrow2
  obtain ⟨z, hz⟩ : ∃ z : List Nat, z = List.replicate N 0 := ⟨_, rfl⟩
  have zl : z.length = N := by rw [hz]; simp
  have zb : ∀ x ∈ z, x < 256 := by intro x hx; rw [hz] at hx; have := List.eq_of_mem_replicate hx; omega
  have o2 : Own w.heap.size w2 (.slice (some ⟨w1'.heap.size, 0, none⟩) N N) z := by
    refine ⟨?_, zb⟩
    have e : u8s z = (madeCells #[Value.int .u8 0] N).toList := by rw [toList_madeCells_one, hz, u8s, List.map_replicate]; rfl
    rw [zl, e]; exact hown2
  have hb2 : Below w1'.heap.size w1' w2 := (Below.refl _ _).grown hgrow2 (Nat.le_refl _) (fun k hk => by cases hk)
  have S2 := hide ((unhide S1).below hb2)
  have B2 := hide ((unhide B1).trans (hb2.mono s1))
  have ob : Bytes w2 (some ⟨w1'.heap.size, 0, none⟩) z := by
    obtain ⟨ao, cap, ev, _, _, hby, _⟩ := o2.slice
    simp only [Value.slice.injEq] at ev
    rw [ev.1]; exact hby
  have OB := hide ob
  have ZL := hide zl
  have ZB := hide zb
  have s2 : w.heap.size ≤ w2.heap.size := (unhide B2).size
  clear o2 hb2 ob hown2 hgrow2 hz zl zb
  by_cases hc : 65536 < N
  · go_wp2_with fail
    refine (frame_long_len _ N N w2 hc).mono ?_
    rintro e w2' ⟨rfl, rfl⟩
    go_wp2_with fail
    refine (split_len _ 5 5 [0, 1, 0, 1, b] rfl _ (bytes_new w2' [0, 1, 0, 1, b] (by intro x hx; simp at hx; omega) 5 (0, 0)) (by omega) (by omega) ((unhide S2).below ((Below.refl _ _).alloc (Nat.le_refl _) _))).mono ?_
    rintro e w3 ⟨fv, vs, rfl, _, _, hb3⟩
    rw [show splitOf ([0, 1, 0, 1, b].length + 1) [0, 1, 0, 1, b] = ([], 0, 5) from split_long b]
    have B3 := hide hb3
    clear hb3
    go_wp2
    go_ret
    exact ⟨rfl, (unhide B2).trans ((((Below.refl _ _).alloc (Nat.le_refl _) _).trans ((unhide B3).mono (by simp))).mono s2)⟩
  · go_wp2_with fail
    refine (frame_len _ N N z (unhide ZL) w2 (unhide OB) (by omega) (unhide S2)).mono ?_
    rintro e w3 ⟨v3, rfl, o3, hb3⟩
    obtain ⟨ao3, cap3, rfl, hc3, _, hby3, _⟩ := o3.slice
    have S3 := hide ((unhide S2).below hb3)
    have B3 := hide ((unhide B2).trans (hb3.mono s2))
    have BY := hide hby3
    have s3 : w.heap.size ≤ w3.heap.size := (unhide B3).size
    have fl : (frame z).length = 8 + N := by rw [frame_length, unhide ZL]
    have FL := hide fl
    rw [fl] at hc3 ⊢
    clear o3 hb3 hby3 fl
    go_wp2_with fail
    refine (split_len ao3 _ cap3 (frame z) (unhide FL) w3 (unhide BY) hc3 (by omega) (unhide S3)).mono ?_
    rintro e w4 ⟨fv, vs, rfl, ho4, hr4, hb4⟩
    rw [split_frame (unhide ZB) (by rw [unhide ZL]; omega)] at hr4 ⊢
    obtain ⟨v0, rfl⟩ : ∃ v0, vs = [v0] := List.length_eq_one_iff.1 hr4.1
    obtain ⟨g, cap, rfl, hcell⟩ := row_open ho4 (by simp)
    obtain ⟨ao0, cap0, rfl, _⟩ := (hr4.2 0 v0 z rfl rfl).slice
    have hc0 := hcell 0 (by simp)
    simp only [List.getElem?_cons_zero] at hc0
    have ez : z.length = N := unhide ZL
    rw [ez] at hc0
    have B4 := hide hb4
    simp only [ez]
    clear hr4 hb4 hcell ho4 ez
    go_wp2
    go_ret
    exact ⟨rfl, (unhide B3).trans ((unhide B4).mono s3)⟩
end Go.Proofs.YtfccflgbljklaaaDoor
