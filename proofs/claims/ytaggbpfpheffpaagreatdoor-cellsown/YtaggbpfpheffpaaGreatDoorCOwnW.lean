/- CellsOwn: the walk. -/
import Derived.Test.YtaggbpfpheffpaaGreatDoorCOwnB
namespace Go.Proofs.YtaggbpfpheffpaaGreatDoor
open Go.RowKit Go.Maps

/-- bytes of the call's own: where they lie, and the first of them. -/
theorem own_first {base nb : Nat} {w : World} {v : Value} {bs : List Nat} (h : w.ownsRow base 5 1 v nb (u8s bs)) (hn : bs.length = nb) (h0 : 0 < nb) :
    ∃ M cap cur, v = .slice (some ⟨M, 0, none⟩) nb cap ∧ base ≤ M ∧ w.heap[M]? = some (.cells cur 5 (0, 0)) ∧ nb ≤ cap ∧ cap ≤ maxLen ∧ cur[0]? = some (.int .u8 ((bs.getD 0 0 : Nat) : Int)) := by
  rcases h.2 with ⟨rfl, hz⟩ | ⟨M, cap, cur, rfl, hb, hh, hc, hm, hs, ht⟩
  · omega
  · refine ⟨M, cap, cur, rfl, hb, hh, hc, hm, ?_⟩
    have h1 : (u8s bs)[0]? = some (.int .u8 ((bs.getD 0 0 : Nat) : Int)) := by
      cases bs with
      | nil => simp at hn; omega
      | cons x xs => rfl
    rw [← ht, List.getElem?_take_of_lt (by omega)] at h1
    simpa using h1
theorem own_row {base : Nat} {w : World} {v : Value} {bs : List Nat} {nb : Nat} (h : Own base w v bs) (hn : bs.length = nb) : w.ownsRow base 5 1 v nb (u8s bs) := by rw [← hn]; exact h.1

set_option maxRecDepth 20000 in
set_option maxHeartbeats 8000000 in
theorem own_walk (ab : Option Addr) (nb cb : Nat) (bs : List Nat) (hn : bs.length = nb) (hmax : nb ≤ maxLen) (y : Nat) (hy : y < 256) (n : Int) (g a : Addr) (w : World) (hS : Start w g a) (hB : Bytes w ab bs) :
    Calls Tryz.prog 7 #[.slice ab nb cb, .int .u8 (y : Int), .int .i64 n] w fun ev w' => ev = .returned (.bool true) ∧ Below w.heap.size w w' := by
  have hmm' : nb ≤ 9223372036854775807 := hmax
  have HS := hide hS
  have hz := hS.low
  obtain ⟨x, hx⟩ : ∃ x : Nat, n % 8 = (x : Int) := ⟨(n % 8).toNat, by have := Int.emod_nonneg n (show (8 : Int) ≠ 0 by decide); omega⟩
  have hx8 : x < 8 := by have := Int.emod_lt_of_pos n (show (0 : Int) < 8 by decide); omega
  have WN := hide (fun w0 => within_at n 8 x hx w0 (by decide) (by decide))
  have KN := hide (cknown_any g a w hS)
  have HB := hide hB
  have EN := hide hn
  clear hS hx hB hn hmax
  go_enter Tryz.func7, Tryz.ntmps7
  go_wp2_with fail
  refine (unhide KN).mono ?_
  rintro e w0 ⟨rfl, b0⟩
  have s0 := b0.size
  have B0 := hide b0
  have S0 := hide ((unhide HS).below b0)
  have hz0 : 4 ≤ w0.heap.size := Nat.le_trans hz s0
  clear b0 KN HS
  by_cases h0 : nb = 0
  · subst h0
    go_wp2
    go_ret
    exact ⟨rfl, unhide B0⟩
  have h0' : ((nb : Int) == 0) = false := by simp; omega
  by_cases h5 : (500 : Int) < nb
  · go_wp2
    go_ret
    exact ⟨rfl, unhide B0⟩
  by_cases hy0 : y = 0
  · subst hy0
    go_wp2
    go_ret
    exact ⟨rfl, unhide B0⟩
  have hy0' : ((y : Int) == 0) = false := by simp; omega
  have hnb5 : nb ≤ 500 := by omega
  go_wp2_with fail
  refine (unhide WN w0).mono ?_
  rintro e wq ⟨rfl, hw⟩
  replace hw := hw.symm
  subst hw
  clear WN
  go_wp2_with fail
  refine (new_ok 400000 w0 (by decide) (by decide)).mono ?_
  rintro e w1 ⟨rfl, t1, b1⟩
  have HC := hide (gfirst w0 w1 t1 ((unhide S0).below b1) b1.size b1)
  clear t1 b1 S0
  go_wp2_with fail
  refine (unhide HC).mono ?_
  rintro e w2 ⟨cp, l, rfl, g2, -⟩
  have G2 := hide g2
  have BG := hide (fun (Y : World) (f : Int → List Nat) (k : Nat) (h : Good w0.heap.size w0 Y cp l w0.heap.size g a f k) => show Below w0.heap.size w0 Y ∧ w0.heap.size ≤ Y.heap.size from by
    obtain ⟨_, _, _, _, _, _, _, _, _, _, _, _, _, h9, h10⟩ := h
    exact ⟨h9, h10⟩)
  have BYT := hide (fun (Y : World) (h : Below w0.heap.size w0 Y) => ((unhide HB).below (unhide B0)).below h)
  obtain ⟨aa, haa⟩ : ∃ aa, ab = some aa := by
    obtain ⟨aa, e, _⟩ := (unhide HB).2 0 (by rw [unhide EN]; omega)
    exact ⟨aa, e⟩
  subst haa
  clear g2 HC
  obtain ⟨i0, hi, hz0', hz1, hz2⟩ := info_parts Tryz.info5
  have hown : (w2.alloc (.cells #[] 5)).ownsRow w2.heap.size 5 1 (.slice (some ⟨w2.heap.size, 0, none⟩) 0 0) 0 [] := World.ownsRow_lit w2 #[] 0 (Nat.le_refl _) (by decide) rfl
  have hnw := ((unhide BYT w2 (unhide BG _ _ _ (unhide G2)).1).below ((Below.refl _ w2).alloc (Nat.le_refl _) (.cells #[] 5))).news
  go_wp2_with (at_builtin; refine wpList_append_own _ rfl (.tmp 41) (.tmp 42) 38 rfl w2.heap.size 5 i0 (.int .u8 0) 1 1 Tryz.underlying38 hi hz0' hz1 hz2 rfl (by decide) _ _ _ rfl hown aa nb cb (u8s bs) rfl (by have := unhide EN; simp [u8s, this]) hnw (u8s_one bs) (by unfold maxLen; omega) (by omega) (by simp) ?_)
  intro v3 w3 o3 hg3 _
  have b3 : Below w2.heap.size w2 w3 := ((Below.refl _ w2).alloc (Nat.le_refl _) _).grown hg3 (by simp) (fun k hk => (hown.lt k hk).1)
  have o3' : w3.ownsRow w2.heap.size 5 1 v3 nb (u8s bs) := by simpa using o3
  obtain ⟨M, cap, cur, rfl, hM, hh3, hc3, hcm3, hc0⟩ := own_first o3' (unhide EN) (by omega)
  have y3 : Bytes w3 (some ⟨M, 0, none⟩) bs := by
    have ow : Own w2.heap.size w3 (.slice (some ⟨M, 0, none⟩) nb cap) bs := ⟨by rw [unhide EN]; exact o3', (unhide HB).1⟩
    obtain ⟨ao, cp', e, _, _, yy, _⟩ := ow.slice
    cases e; exact yy
  obtain ⟨U, hU⟩ : ∃ U, w3.alloc (.cells #[.int .i64 (x : Int), .slice (some ⟨M, 0, none⟩) nb cap] 40) = U := ⟨_, rfl⟩
  have bU : Below w3.heap.size w3 U := by rw [← hU]; exact (Below.refl _ w3).alloc (Nat.le_refl _) _
  have aU : CAt U (some ⟨w3.heap.size, 0, none⟩) [((x : Int), bs)] := by rw [← hU]; exact cat_one w3 (x : Int) _ cap nb bs (unhide EN) y3 (fun h => by cases h) hc3
  have OP := hide (oput (x : Int) (by omega) bs (by rw [unhide EN]; omega) (some ⟨w3.heap.size, 0, none⟩) 1 hz0 w2 U (unhide G2) (b3.trans (bU.mono b3.size)) aU M cur hM ((bU.block M (blk_lt' hh3)).trans hh3))
  have HU := hide hU
  have HC0 := hide hc0
  clear hi hz0' hz1 hz2 hown hnw o3 o3' hg3 b3 hh3 hc0 y3 hU bU aU
  go_wp2_with fail
  rw [unhide HU]
  refine (unhide OP).mono ?_
  rintro e w4 ⟨rfl, hM4, hGA⟩
  have m0 : w4.cell? ⟨M, 0, none⟩ = some (.int .u8 ((bs.getD 0 0 : Nat) : Int)) := (cell_of_block hM4).trans (unhide HC0)
  have mf : w4.frozen? ⟨M, 0, none⟩ = false := free_of_block hM4
  have HGA := hide hGA
  have q0 : (0 : Int) < (nb : Int) := by omega
  obtain ⟨z0, hz0⟩ : ∃ z0, bs.getD 0 0 = z0 := ⟨_, rfl⟩
  rw [hz0] at m0
  have HZ0 := hide hz0
  clear hGA hM4 OP HU HC0 hz0
  go_upto_region 11 with fail
  obtain ⟨A, hA⟩ : ∃ A, w4.setCell ⟨M, 0, none⟩ (.int .u8 (bits BinOp.xor IntKind.u8 (z0 : Int) (y : Int))) = A := ⟨_, rfl⟩
  have gA := unhide HGA (.int .u8 (bits BinOp.xor IntKind.u8 (z0 : Int) (y : Int)))
  rw [hA] at gA ⊢
  have GA := hide (fun (Y : World) (h : Below A.heap.size A Y) => gA.below h)
  have BA := hide (fun (Y : World) (h : Below A.heap.size A Y) => unhide BYT Y (unhide BG _ _ _ (unhide GA Y h)).1)
  have FX : Hid (setF noF [((x : Int), bs)] (x : Int) = bs) := set_at noF (x : Int) bs
  have CE : Hid (cellsOf (setF noF [((x : Int), bs)]) = [((x : Int), bs)]) := one_cell_of (x : Int) (by omega) bs (by intro e; have := unhide EN; rw [e] at this; simp at this; omega)
  have SB : Hid (setF (setF noF [((x : Int), bs)]) [((x : Int), [])] = noF) := set_back (x : Int) bs
  obtain ⟨F, hF⟩ : ∃ F, setF noF [((x : Int), bs)] = F := ⟨_, rfl⟩
  rw [hF] at GA FX CE SB
  have GT := hide (fun (Y : World) (h : Below A.heap.size A Y) => gget (x : Int) (by omega) Y (unhide GA Y h))
  rw [unhide FX] at GT
  obtain ⟨sb, hsb⟩ : ∃ sb, str bs = sb := ⟨_, rfl⟩
  have HSB := hide hsb
  have T1 := hide (unhide GT A (Below.refl _ _))
  clear hA gA hF hsb m0 mf HGA G2
  go_wp2_with fail
  refine (unhide T1).mono ?_
  rintro e w6 ⟨v6, rfl, o6, b6⟩
  obtain ⟨X, c6, cur6, rfl, hX, hh6, -, -, hc6⟩ := own_first (own_row o6 (unhide EN)) (unhide EN) (by omega)
  have x0 : w6.cell? ⟨X, 0, none⟩ = some (.int .u8 (z0 : Int)) := (cell_of_block hh6).trans (by rw [← unhide HZ0]; exact hc6)
  have xf : w6.frozen? ⟨X, 0, none⟩ = false := free_of_block hh6
  have B6 := hide (fun v => (b6.setCell (p := ⟨X, 0, none⟩) hX v))
  clear o6 b6 hh6 hc6 T1 hX
  go_upto_region 13 with fail
  obtain ⟨A2, hA2⟩ : ∃ A2, w6.setCell ⟨X, 0, none⟩ (.int .u8 (bits BinOp.xor IntKind.u8 (z0 : Int) (y : Int))) = A2 := ⟨_, rfl⟩
  have b2 := unhide B6 (.int .u8 (bits BinOp.xor IntKind.u8 (z0 : Int) (y : Int)))
  rw [hA2] at b2 ⊢
  have BA2 := hide b2
  have AL := hide (show Calls Tryz.prog 23 #[.pointer (some ⟨cp, 0, none⟩)] A2 fun e w' => ∃ v, e = .returned v ∧ CRow A2.heap.size w' v (cellsOf F) ∧ Below A2.heap.size A2 w' from by
    obtain ⟨b, c, q, n, ops, h1, h2, h3, h4, h5, h6, -⟩ := unhide GA A2 b2
    exact all_any A2 h1 (by omega) (fun x => Nat.le_trans (h5 x) (by decide)))
  rw [unhide CE] at AL
  clear hA2 b2 B6 x0 xf
  go_wp2_with fail
  refine (unhide AL).mono ?_
  rintro e w7 ⟨v7, rfl, ⟨xs, r7, hx7⟩, b7⟩
  obtain ⟨d, u1, u2, od⟩ := hx7 0 (x : Int) bs rfl
  obtain ⟨Dk, cd, curd, rfl, hD, hhD, -, -, hcD⟩ := own_first (own_row od (unhide EN)) (unhide EN) (by omega)
  obtain ⟨R, c7, rfl⟩ : ∃ R c7, v7 = .slice (some ⟨R, 0, none⟩) 1 c7 := by
    rcases r7.2 with ⟨rfl, hz⟩ | ⟨R, c7, _, rfl, _⟩
    · simp at hz
    · exact ⟨R, c7, rfl⟩
  have rd : w7.cell? ⟨R, 1, none⟩ = some (.slice (some ⟨Dk, 0, none⟩) nb cd) := by
    have := World.ownsRow.cells r7 (g := R) rfl 1 _ u2
    rwa [Addr.add_lit] at this
  have E7 := hide ((unhide BA2).trans (b7.mono (unhide BA2).size))
  have RD := hide rd
  have HD := hide hhD
  have HDC := hide hcD
  have LD : Hid (A.heap.size ≤ Dk) := Nat.le_trans (unhide BA2).size hD
  have cb7 := conv_str (w := w7.drew) (n := nb) (cap := cb) (unhide BA _ (unhide E7).drew) (unhide EN)
  rw [unhide HSB] at cb7
  have G7 := hide (unhide GT _ (unhide E7).drew)
  clear r7 hx7 u1 u2 od hD hhD hcD rd b7 AL BA2
  go_upto_region 14 with fail
  first
  | (go_region_held_law (fun _ => True)
      (first | exact trivial)
      (first
        | (go_at_call 22
           refine (unhide G7).mono ?_
           rintro e w8 ⟨v8, rfl, o8, b8⟩
           obtain ⟨a8, c8, rfl, -, -, y8, -, -⟩ := o8.slice
           have E8 := hide ((unhide E7).drew.trans (b8.mono (unhide E7).drew.size))
           have K8 : Hid (Below w7.heap.size w7 w8) := (Below.refl _ w7).drew.trans b8
           have cv8 := conv_str (n := nb) (cap := c8) y8 (unhide EN)
           have cb8 := conv_str (n := nb) (cap := cb) (unhide BA _ (unhide E8)) (unhide EN)
           rw [unhide HSB] at cv8 cb8
           rw [unhide EN]
           clear o8 b8 y8)))
  | fail
  all_goals
    have rd8 : w8.cell? ⟨R, 1, none⟩ = some (.slice (some ⟨Dk, 0, none⟩) nb cd) := ((unhide K8).cell (blk_lt (unhide RD))).trans (unhide RD)
    have hh8 := ((unhide K8).block _ (blk_lt' (unhide HD))).trans (unhide HD)
    have d0 : w8.cell? ⟨Dk, 0, none⟩ = some (.int .u8 (z0 : Int)) := (cell_of_block hh8).trans (by rw [← unhide HZ0]; exact unhide HDC)
    have df : w8.frozen? ⟨Dk, 0, none⟩ = false := free_of_block hh8
    obtain ⟨A3, hA3⟩ : ∃ A3, w8.setCell ⟨Dk, 0, none⟩ (.int .u8 (bits BinOp.xor IntKind.u8 (z0 : Int) (y : Int))) = A3 := ⟨_, rfl⟩
    have E3 : Hid (Below A.heap.size A A3) := by rw [← hA3]; exact (unhide E8).setCell (p := ⟨Dk, 0, none⟩) (unhide LD) _
    have HA3 := hide hA3
    have cb3 := conv_str (w := A3.drew) (n := nb) (cap := cb) (unhide BA _ (unhide E3).drew) (unhide EN)
    rw [unhide HSB] at cb3
    have G3 := hide (unhide GT _ (unhide E3).drew)
    clear hh8 hA3 G7 cb7 cv8 cb8
    go_upto_region 17 with fail
    rw [unhide HA3]
    clear HA3 rd8 d0 df
    first
    | (go_region_held_law (fun _ => True)
        (first | exact trivial)
        (first
          | (go_at_call 22
             refine (unhide G3).mono ?_
             rintro e w9 ⟨v9, rfl, o9, b9⟩
             obtain ⟨a9, c9, rfl, -, -, y9, -, -⟩ := o9.slice
             have E9 := hide ((unhide E3).drew.trans (b9.mono (unhide E3).drew.size))
             have cv9 := conv_str (n := nb) (cap := c9) y9 (unhide EN)
             have cb9 := conv_str (n := nb) (cap := cb) (unhide BA _ (unhide E9)) (unhide EN)
             rw [unhide HSB] at cv9 cb9
             rw [unhide EN]
             clear o9 b9 y9)))
    | fail
    all_goals
      obtain ⟨U2, hU2⟩ : ∃ U2, w9.alloc (.cells #[.int .i64 (x : Int), .slice none 0 0] 40) = U2 := ⟨_, rfl⟩
      have bU2 : Below w9.heap.size w9 U2 := by rw [← hU2]; exact (Below.refl _ w9).alloc (Nat.le_refl _) _
      have aU2 : CAt U2 (some ⟨w9.heap.size, 0, none⟩) [((x : Int), [])] := by rw [← hU2]; exact cat_one w9 (x : Int) none 0 0 [] rfl ⟨by simp, fun i hi => by simp at hi⟩ (fun _ => rfl) (Nat.le_refl _)
      have PU := hide (gput (x : Int) (by omega) [] (by simp) (some ⟨w9.heap.size, 0, none⟩) 1 (by omega) hz0 U2 ((unhide GA _ (unhide E9)).below bU2) aU2)
      rw [unhide SB] at PU
      have HU2 := hide hU2
      clear hU2 bU2 aU2 cv9 cb9 cb3 G3
      go_upto_region 20 with (rw [unhide HU2]; refine (unhide PU).mono ?_; rintro e wA ⟨rfl, gA, -⟩)
      have GG := hide (gget (x : Int) (by omega) wA gA)
      have GN := hide gA
      clear gA PU HU2
      go_wp2_with fail
      refine (unhide GG).mono ?_
      rintro e wB ⟨vB, rfl, oB, bB⟩
      obtain ⟨aB, cB, rfl, -, -, -, -, -⟩ := oB.slice
      have GB := hide ((unhide GN).below bB)
      have AB := hide (gall (by omega) wB (unhide GB))
      have eN : (noF (x : Int)).length = 0 := rfl
      rw [eN]
      rw [show (cellsOf noF).length = 0 by decide] at AB
      clear oB bB GG eN
      go_wp2_with fail
      refine (unhide AB).mono ?_
      rintro e wC ⟨aC, cC, rfl, bC⟩
      have GC := hide ((unhide GB).below bC)
      clear bC AB
      go_wp2
      go_ret
      exact ⟨rfl, (unhide B0).trans ((unhide BG _ _ _ (unhide GC)).1.mono s0)⟩
end Go.Proofs.YtaggbpfpheffpaaGreatDoor
