/- CellsRefuse: the walk. -/
import Derived.Test.YtfdcfhlbgcfbcaaGreatDoorCRefA
namespace Go.Proofs.YtfdcfhlbgcfbcaaGreatDoor
open Go.RowKit Go.Maps

set_option maxRecDepth 20000 in
set_option maxHeartbeats 2000000 in
theorem refuse3 (which bY : Int) (j : Nat) (hj : which % 4 = (j : Int)) (hj3 : j = 3) (g a : Addr) (w : World) (hS : Start w g a) : Calls Tryz.prog 6 #[.int .i64 which, .int .i64 bY] w fun ev w' => ev = .returned (.bool true) ∧ Below w.heap.size w w' := by
  have hcv := fun (w : World) (C : Array Value) (n c : Nat) => Lib.run_convert_bytes_const (P := Tryz.prog) w 38 5 C n c Tryz.underlying38 Tryz.underlying5
  have HS := hide hS
  have hz := hS.low
  obtain ⟨k, hk⟩ : ∃ k : Nat, bY % 100 = (k : Int) := ⟨(bY % 100).toNat, by have := Int.emod_nonneg bY (show (100 : Int) ≠ 0 by decide); omega⟩
  have hk100 : k < 100 := by have := Int.emod_lt_of_pos bY (show (0 : Int) < 100 by decide); omega
  have WB := hide (fun w0 => within_at bY 100 k hk w0 (by decide) (by decide))
  have WJ := hide (fun w0 => within_at which 4 j hj w0 (by decide) (by decide))
  have KN := hide (cknown_any g a w hS)
  clear hS hk hj
  go_enter Tryz.func6, Tryz.ntmps6
  go_wp2_with fail
  refine (unhide KN).mono ?_
  rintro e w0 ⟨rfl, b0⟩
  have s0 := b0.size
  have B0 := hide b0
  have S0 := hide ((unhide HS).below b0)
  have hz0 : 4 ≤ w0.heap.size := Nat.le_trans hz s0
  clear b0 KN HS
  go_wp2_with fail
  refine (new_ok 400000 w0 (by decide) (by decide)).mono ?_
  rintro e w1 ⟨rfl, t1, b1⟩
  have s1 := b1.size
  have S1 := hide ((unhide S0).below b1)
  have HC := hide (copen w0.heap.size w0.heap.size none 400000 0 0 0 noF g a w1 (by rw [rows_none]; exact t1) (unhide S1) s1 (by rw [rows_none]; exact Fit.nil) (by rw [rows_none]; rfl) (by decide) (fun x h => absurd rfl h) (fun x => Nat.zero_le _))
  have B1 := hide ((unhide B0).trans (b1.mono s0))
  clear t1 b1 B0 S0
  go_wp2_with fail
  refine (unhide HC).mono ?_
  rintro e w2 ⟨cp, l, b, rfl, hcp, hl, hbb, c2, l2, b2⟩
  have s2 := b2.size
  have s02 : w0.heap.size ≤ w2.heap.size := Nat.le_trans s1 s2
  have S2 := hide ((unhide S1).below b2)
  have B2 := hide ((unhide B1).trans (b2.mono (by omega)))
  have C2 := hide c2
  have L2 := hide l2
  clear b2 c2 l2 S1 B1 HC
  go_wp2_with fail
  refine (unhide WB w2).mono ?_
  rintro e wq ⟨rfl, hw⟩
  replace hw := hw.symm
  subst hw
  obtain ⟨V, hV⟩ : ∃ V, (w2.alloc (.cells #[.int .u8 97] 5 (1, 2))).alloc (.cells #[.int .i64 3, .slice (some ⟨w2.heap.size, 0, none⟩) 1 1] 40) = V := ⟨_, rfl⟩
  obtain ⟨v1, v2, bV⟩ : V.heap[w2.heap.size]? = some (.cells #[.int .u8 97] 5 (1, 2)) ∧ V.heap[w2.heap.size + 1]? = some (.cells #[.int .i64 3, .slice (some ⟨w2.heap.size, 0, none⟩) 1 1] 40 (0, 0)) ∧ Below w2.heap.size w2 V := by rw [← hV]; exact heap2 w2 _ _
  obtain ⟨U, hU⟩ : ∃ U, (V.alloc (.cells #[.int .u8 98] 5 (1, 2))).alloc (.cells #[.int .i64 3, .slice (some ⟨V.heap.size, 0, none⟩) 1 1] 40) = U := ⟨_, rfl⟩
  obtain ⟨u1, u2, bU⟩ : U.heap[V.heap.size]? = some (.cells #[.int .u8 98] 5 (1, 2)) ∧ U.heap[V.heap.size + 1]? = some (.cells #[.int .i64 3, .slice (some ⟨V.heap.size, 0, none⟩) 1 1] 40 (0, 0)) ∧ Below V.heap.size V U := by rw [← hU]; exact heap2 V _ _
  have sV := bV.size
  have sU := bU.size
  obtain ⟨A, hA⟩ : ∃ A, w2.heap.size + 1 = A := ⟨_, rfl⟩
  obtain ⟨B, hB⟩ : ∃ B, V.heap.size + 1 = B := ⟨_, rfl⟩
  rw [hA] at v2
  rw [hB] at u2
  have hAV : A < V.heap.size := blk_lt' v2
  have gU : U.heap[A]? = some (.cells #[.int .i64 3, .slice (some ⟨w2.heap.size, 0, none⟩) 1 1] 40 (0, 0)) := (bU.block A hAV).trans v2
  have yU : Bytes U (some ⟨w2.heap.size, 0, none⟩) [97] := bytes_block (bs := [97]) ((bU.block _ (by omega)).trans v1) (by decide)
  have xU : Bytes U (some ⟨V.heap.size, 0, none⟩) [98] := bytes_block (bs := [98]) u1 (by decide)
  have HV := hide hV
  have HU := hide hU
  have HA := hide hA
  have HB := hide hB
  have GU := hide gU
  have DU := hide u2
  have YU := hide yU
  have XU := hide xU
  have BU := hide (bV.trans (bU.mono sV))
  clear hV hU hA hB v1 v2 u1 u2 bV bU gU yU xU WB
  go_upto_region 7 with fail
  rw [unhide HV, unhide HA]
  go_upto_region 9 with fail
  rw [unhide HU, unhide HB]
  clear HV HU
  subst hj3
  go_upto_region 16 with (refine (unhide WJ U).mono ?_; rintro e wq ⟨rfl, hw⟩; replace hw := hw.symm; subst hw)
  obtain ⟨E, hE⟩ : ∃ E, U = E := ⟨_, rfl⟩
  have GE := GU
  have DE := DU
  have YE := YU
  have XE := XU
  have BE := BU
  rw [hE] at GE DE YE XE BE ⊢
  clear hE
  obtain ⟨N, hN⟩ : ∃ N : Int, N = 3 := ⟨_, rfl⟩
  rw [← hN] at DE
  have hNw : -1000000 ≤ N ∧ N ≤ 1000000 := by omega
  have HR1 : Hid (refuseOf (fun _ => false) [(3, [97]), (N, [98])] = 1) := by show _ = _; subst hN; decide
  have HR2 : Hid (refuseOf (fun _ => false) [(N, [98]), (3, [97])] = 1) := by show _ = _; subst hN; decide
  clear hN
  obtain ⟨bs, hbs⟩ : ∃ bs : List Nat, bs = [98] := ⟨_, rfl⟩
  rw [← hbs] at HR1 HR2 XE
  obtain ⟨m, hm⟩ : ∃ m, m = 1 := ⟨_, rfl⟩
  obtain ⟨cx, hcx⟩ : ∃ cx, cx = 1 := ⟨_, rfl⟩
  obtain ⟨P, hP⟩ : ∃ P, P = V.heap.size := ⟨_, rfl⟩
  have DE : Hid (E.heap[B]? = some (.cells #[.int .i64 N, .slice (some ⟨P, 0, none⟩) m cx] 40 (0, 0))) := by rw [hP, hm, hcx]; exact unhide DE
  rw [← hP] at XE
  have HBS : Hid (bs.length = m) := by rw [hbs, hm]; exact rfl
  have hmc : m ≤ cx := by omega
  have hW0 : (1 : Nat) ≠ 0 := by decide
  have HW1 : Hid (∀ c ∈ [(3, [97]), (N, bs)], wf64 c.1) := fun c hc => by
    simp only [List.mem_cons, List.not_mem_nil, or_false] at hc
    rcases hc with rfl | rfl
    · exact wf_small64 (by decide)
    · exact wf_small64 hNw
  have HW2 : Hid (∀ c ∈ [(N, bs), (3, [97])], wf64 c.1) := fun c hc => by
    simp only [List.mem_cons, List.not_mem_nil, or_false] at hc
    rcases hc with rfl | rfl
    · exact wf_small64 hNw
    · exact wf_small64 (by decide)
  clear hbs hP hm hcx
  have hAA : A < E.heap.size := blk_lt' (unhide GE)
  have e0 : E.cell? ⟨A, 0, none⟩ = some (.int .i64 3) := (cell_of_block (unhide GE)).trans rfl
  have e1 : E.cell? ⟨A, 1, none⟩ = some (.slice (some ⟨w2.heap.size, 0, none⟩) 1 1) := (cell_of_block (unhide GE)).trans rfl
  have d0 : E.cell? ⟨B, 0, none⟩ = some (.int .i64 N) := (cell_of_block (unhide DE)).trans rfl
  have d1 : E.cell? ⟨B, 1, none⟩ = some (.slice (some ⟨P, 0, none⟩) m cx) := (cell_of_block (unhide DE)).trans rfl
  obtain ⟨E1, hE1⟩ : ∃ E1, E.alloc (.cells #[.int .i64 3, .slice (some ⟨w2.heap.size, 0, none⟩) 1 1, .int .i64 N, .slice (some ⟨P, 0, none⟩) m cx] 40) = E1 := ⟨_, rfl⟩
  have bE1 : Below E.heap.size E E1 := by rw [← hE1]; exact (Below.refl _ E).alloc (Nat.le_refl _) _
  have aE1 : CAt E1 (some ⟨E.heap.size, 0, none⟩) [(3, [97]), (N, bs)] := by rw [← hE1]; exact cat_two E 3 N _ _ 1 cx 1 m [97] bs rfl (unhide HBS) (unhide YE) (unhide XE) (fun h => by cases h) (fun h => by cases h) (Nat.le_refl _) hmc
  have CE := hide ((unhide C2).below (unhide BE))
  have LE := hide ((unhide L2).below (unhide BE))
  have SE := hide ((unhide S2).below (unhide BE))
  have P1 := hide (Put_of cp (some ⟨E.heap.size, 0, none⟩) 2 2 (by decide) E1 1 _ (put_no (some ⟨E.heap.size, 0, none⟩) 2 2 [(3, [97]), (N, bs)] rfl (by decide) E1 ((unhide CE).below bE1) aE1 (unhide HW1) (by rw [unhide HR1]; exact hW0) 1 (unhide HR1)))
  have HE1 := hide hE1
  have BE1 := hide bE1
  clear hE1 bE1 aE1
  go_upto_region 17 with (rw [unhide HE1]; refine (unhide P1).mono ?_; rintro e w6 ⟨rfl, b6⟩)
  have b6E : Below E.heap.size E w6 := (unhide BE1).trans (b6.mono (unhide BE1).size)
  have s6 := b6E.size
  have e60 : w6.cell? ⟨A, 0, none⟩ = some (.int .i64 3) := by rw [b6E.cell (blk_lt e0)]; exact e0
  have e61 : w6.cell? ⟨A, 1, none⟩ = some (.slice (some ⟨w2.heap.size, 0, none⟩) 1 1) := by rw [b6E.cell (blk_lt e1)]; exact e1
  have d60 : w6.cell? ⟨B, 0, none⟩ = some (.int .i64 N) := by rw [b6E.cell (blk_lt d0)]; exact d0
  have d61 : w6.cell? ⟨B, 1, none⟩ = some (.slice (some ⟨P, 0, none⟩) m cx) := by rw [b6E.cell (blk_lt d1)]; exact d1
  obtain ⟨E2, hE2⟩ : ∃ E2, w6.alloc (.cells #[.int .i64 N, .slice (some ⟨P, 0, none⟩) m cx, .int .i64 3, .slice (some ⟨w2.heap.size, 0, none⟩) 1 1] 40) = E2 := ⟨_, rfl⟩
  have bE2 : Below w6.heap.size w6 E2 := by rw [← hE2]; exact (Below.refl _ w6).alloc (Nat.le_refl _) _
  have aE2 : CAt E2 (some ⟨w6.heap.size, 0, none⟩) [(N, bs), (3, [97])] := by rw [← hE2]; exact cat_two w6 N 3 _ _ cx 1 m 1 bs [97] (unhide HBS) rfl ((unhide XE).below b6E) ((unhide YE).below b6E) (fun h => by cases h) (fun h => by cases h) hmc (Nat.le_refl _)
  have b2E : Below E.heap.size E E2 := b6E.trans (bE2.mono s6)
  have P2 := hide (Put_of cp (some ⟨w6.heap.size, 0, none⟩) 2 2 (by decide) E2 1 _ (put_no (some ⟨w6.heap.size, 0, none⟩) 2 2 [(N, bs), (3, [97])] rfl (by decide) E2 ((unhide CE).below b2E) aE2 (unhide HW2) (by rw [unhide HR2]; exact hW0) 1 (unhide HR2)))
  have HE2 := hide hE2
  have B2E := hide b2E
  clear hE2 bE2 aE2 b6 b6E b2E P1 HE1 BE1 d0 d1 e0 e1
  go_upto_region 18 with (rw [unhide HE2]; refine (unhide P2).mono ?_; rintro e w7 ⟨rfl, b7⟩)
  have b7E : Below E.heap.size E w7 := (unhide B2E).trans (b7.mono (unhide B2E).size)
  have AL := hide (all_any w7 ((unhide CE).below b7E) (by decide) (fun x => Nat.zero_le _))
  have B7 := hide b7E
  clear b7 b7E P2 HE2 B2E d60 d61 e60 e61
  go_wp2_with fail
  refine (unhide AL).mono ?_
  rintro e w8 ⟨v8, rfl, r8, b8⟩
  obtain ⟨ao8, cap8, rfl⟩ := own_none_all r8
  have b8E : Below E.heap.size E w8 := (unhide B7).trans (b8.mono (unhide B7).size)
  have G1 := hide (get_any 3 (wf_small64 (by decide)) w8 ((unhide CE).below b8E) (Nat.zero_le _))
  have B8 := hide b8E
  clear r8 b8 b8E AL B7
  go_wp2_with fail
  refine (unhide G1).mono ?_
  rintro e w9 ⟨v9, rfl, _, n9, b9⟩
  obtain rfl : v9 = .slice none 0 0 := n9 rfl
  have b9E : Below E.heap.size E w9 := (unhide B8).trans (b9.mono (unhide B8).size)
  have s9 := b9E.size
  have e90 : w9.cell? ⟨A, 0, none⟩ = some (.int .i64 3) := (cell_of_block ((b9E.block A hAA).trans (unhide GE))).trans rfl
  have e91 : w9.cell? ⟨A, 1, none⟩ = some (.slice (some ⟨w2.heap.size, 0, none⟩) 1 1) := (cell_of_block ((b9E.block A hAA).trans (unhide GE))).trans rfl
  obtain ⟨E3, hE3⟩ : ∃ E3, w9.alloc (.cells #[.int .i64 3, .slice (some ⟨w2.heap.size, 0, none⟩) 1 1] 40) = E3 := ⟨_, rfl⟩
  have bE3 : Below w9.heap.size w9 E3 := by rw [← hE3]; exact (Below.refl _ w9).alloc (Nat.le_refl _) _
  have aE3 : CAt E3 (some ⟨w9.heap.size, 0, none⟩) [goodC] := by rw [← hE3]; exact cat_one w9 3 _ 1 1 [97] rfl ((unhide YE).below b9E) (fun h => by cases h) (Nat.le_refl _)
  have b3E : Below E.heap.size E E3 := b9E.trans (bE3.mono s9)
  have sE := (unhide BE).size
  obtain ⟨n1, hn1⟩ : ∃ n1, takes (rows goodF) = n1 := ⟨_, rfl⟩
  have P3 := hide (nput g a (some ⟨w9.heap.size, 0, none⟩) 1 1 [goodC] rfl (by decide) (by decide) E3 ((unhide CE).below b3E) (by decide) ((unhide LE).below b3E) ((unhide SE).below b3E) (by have := b3E.size; omega) (by decide) aE3 (fun c hc => by simp at hc; subst hc; exact wf_small64 (by decide)) (fun x => Nat.zero_le _) (by decide) (by decide) goodF rfl n1 hn1)
  have HE3 := hide hE3
  have B3E := hide ((unhide B2).trans ((unhide BE).trans (b3E.mono sE) |>.mono (by omega)))
  clear hE3 bE3 aE3 b9 b9E b3E G1 B8 hn1 n9
  go_wp2_with fail
  rw [unhide HE3]
  refine (unhide P3).mono ?_
  rintro e wA ⟨rfl, qA, bA, cA, lA, kA, _⟩
  have G2 := hide (get_any 3 (wf_small64 (by decide)) wA cA (by decide))
  rw [good_at] at G2
  have BA := hide ((unhide B3E).trans (kA.1.mono s0))
  clear cA lA kA P3 HE3 e90 e91
  go_wp2_with fail
  refine (unhide G2).mono ?_
  rintro e wB ⟨vB, rfl, ov, _, bB⟩
  obtain ⟨va, vc, rfl, _, _, vb, _, _⟩ := ov.slice
  have cv := conv_str (n := 1) (cap := vc) vb rfl
  have es : str [97] = { data := #[97] } := by decide
  rw [es] at cv
  have BF := hide ((unhide BA).trans (bB.mono (unhide BA).size))
  clear ov vb bB G2 es
  go_wp2
  go_ret
  exact ⟨rfl, unhide BF⟩
end Go.Proofs.YtfdcfhlbgcfbcaaGreatDoor
