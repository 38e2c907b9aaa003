/- LinkPlays: the walk. -/
import Derived.Test.YtkanolmcaoecgaaLRAll
import Derived.Test.YtkanolmcaoecgaaLCallsA
import Derived.Deep.RegionHeldLaw
namespace Go.Proofs.Ytkanolmcaoecgaa
open Go.RowKit Go.Maps

/-- blocks of other types stay when a link is called. -/
theorem Lk.typed {w w' : World} {base p s q : Nat} {life : Int} {sent : Int → Nat} {heard : Int → Hd} {ref c : Nat} (h : Lk w p s q life sent heard ref c) (hk : Kept base (foot p s q) w w') {b : Nat} {cs : Array Value} {t : TypeId} {fr : Nat × Nat} (hb : w.heap[b]? = some (.cells cs t fr)) (ht : t ≠ 53) : w'.heap[b]? = w.heap[b]? := by
  obtain ⟨Ds, Dh, a1, a2, ⟨es, cl, b1, _⟩, ⟨fs, dl, d1, _⟩, _⟩ := h
  refine hk.2 b (blk_lt' hb) (fun hf => ?_)
  rcases hf with rfl | rfl | rfl
  · rw [a1] at hb; cases hb; exact ht rfl
  · rw [b1] at hb; cases hb
  · rw [d1] at hb; cases hb
/-- a link stays when the reference is called. -/
theorem Lk.only {w w' : World} {b p s q : Nat} {ts : List TypeId} {life : Int} {sent : Int → Nat} {heard : Int → Hd} {ref c : Nat} (h : Lk w p s q life sent heard ref c) (ho : Only b ts w w') (ht : 53 ∉ ts) : Lk w' p s q life sent heard ref c := by
  have h0 := h
  obtain ⟨Ds, Dh, a1, a2, ⟨es, cl, b1, _⟩, ⟨fs, dl, d1, _⟩, _⟩ := h0
  refine h.kept ((ho.block a1 ht).trans a1.symm) (ho.2 s h.lt.2.1 (fun cur e fr h0 => by rw [b1] at h0; cases h0)) (ho.2 q h.lt.2.2 (fun cur e fr h0 => by rw [d1] at h0; cases h0))
theorem Xk.typed {w w' : World} {b x : Nat} {v : Value} {l0 : Int} {r0 : Nat} {ps : List Pr} {base p s q : Nat} {life : Int} {sent : Int → Nat} {heard : Int → Hd} {ref c : Nat} (h : Xk b w x v l0 r0 ps) (hl : Lk w p s q life sent heard ref c) (hk : Kept base (foot p s q) w w') : Xk b w' x v l0 r0 ps :=
  h.kept fun k cs t hb ht => hl.typed hk hb (by rcases ht with rfl | rfl | rfl <;> decide)

/-- the link and the reference go alike. -/
def PlAt (base : Nat) (w0 w : World) (p s q x : Nat) (life : Int) (k : Nat) : Prop :=
  ∃ (sent : Int → Nat) (heard : Int → Hd) (ref : Nat) (v : Value) (ps : List Pr), Lk w p s q life sent heard ref k ∧ Xk base w x v life ref ps ∧ Agree sent heard ps k ∧ Below base w0 w

set_option maxRecDepth 20000 in
set_option maxHeartbeats 2000000 in
theorem plays_walk (x0 : Int) (ao : Option Addr) (n cap : Nat) (w : World) (hm : n ≤ maxLen) (hi : CallsAt w ao n) :
    Calls Try.prog 3 #[.int .i64 x0, .slice ao n cap] w fun e w' => e = .returned (.bool true) ∧ Below w.heap.size w w' := by
  obtain ⟨t, ht⟩ : ∃ t : Nat, x0 % 1000 = (t : Int) := ⟨(x0 % 1000).toNat, by omega⟩
  have ht5 : t < 1000 := by omega
  have W0 := hide (fun w => show Calls Try.prog 9 #[.int .i64 x0, .int .i64 1000] w fun ev w' => ev = .returned (.int .i64 (t : Int)) ∧ w' = w by rw [← ht]; exact within_any x0 1000 w (by decide) (by decide))
  obtain ⟨T, hT⟩ : ∃ T, t + 1 = T := ⟨_, rfl⟩
  have eT : (1 : Int) + (t : Int) = (T : Int) := by omega
  have KN := hide (known_any w)
  have HI := hide hi
  have hm' : n ≤ 9223372036854775807 := by unfold maxLen at hm; omega
  clear ht hT hi hm
  go_enter Try.func3, Try.ntmps3
  go_wp2_with fail
  refine (unhide KN).mono ?_
  rintro e w1 ⟨rfl, b1⟩
  have B1 := hide b1
  clear b1 KN
  go_wp2_with fail
  refine (unhide W0 _).mono ?_
  rintro e w2 ⟨rfl, rfl⟩
  have NW := hide (new_at 3 (T : Int) w2)
  go_wp2_with fail
  refine (unhide NW).mono ?_
  rintro e w3 ⟨⟨p, s, q, rfl, l3, hp, hs, hq⟩, b3⟩
  have s1 := (unhide B1).size
  have PB : Hid (w.heap.size ≤ p ∧ w.heap.size ≤ s ∧ w.heap.size ≤ q) := ⟨Nat.le_trans s1 hp, Nat.le_trans s1 hs, Nat.le_trans s1 hq⟩
  obtain ⟨W, hW⟩ : ∃ W, w3.alloc (.cells #[.int .i64 (T : Int), .int .i64 0, .slice none 0 0] 30) = W := ⟨_, rfl⟩
  have bW : Below w3.heap.size w3 W := by rw [← hW]; exact (Below.refl _ w3).alloc (Nat.le_refl _) _
  have xW : W.heap[w3.heap.size]? = some (.cells #[.int .i64 (T : Int), .int .i64 0, .slice none 0 0] 30 (0, 0)) := by rw [← hW]; exact heap_alloc_new _ _
  have hA : w.heap.size ≤ w3.heap.size := Nat.le_trans s1 b3.size
  have S0 : Hid (PlAt w.heap.size w W p s q w3.heap.size (T : Int) 0) := ⟨fun _ => 0, fun _ => Hd.none, 0, .slice none 0 0, [], l3.below bW, ⟨hA, xW, ⟨[], ⟨rfl, Or.inl ⟨rfl, rfl⟩⟩, fun i r j u h => by simp at h⟩, fun r hr => by simp at hr⟩, Agree.none, ((unhide B1).trans (b3.mono s1)).trans (bW.mono hA)⟩
  obtain ⟨x, hx⟩ : ∃ x, w3.heap.size = x := ⟨_, rfl⟩
  rw [hx] at S0
  have HX := hide hx
  have HW := hide hW
  clear l3 hp hs hq b3 s1 bW xW hA hW NW B1 W0 hx
  go_upto_region 6 with fail
  rw [unhide HW, unhide HX]
  clear HW HX
  go_loopg [7] 80 (fun gg iv wr => ∃ k : Nat, k + gg = 80 ∧ k ≤ n ∧ iv = .int .i64 (k : Int) ∧ PlAt w.heap.size w wr p s q x (T : Int) k)
  case atStart => exact ⟨0, by omega, Nat.zero_le _, rfl, unhide S0⟩
  case round =>
    obtain ⟨k, hgk, hkn, rfl, sent, heard, ref, v, ps, hlk, hxk, hag, hlow⟩ := hrel
    have hk80 : k ≤ 80 := by omega
    have hsz := hlow.size
    by_cases hlt : k < n ∧ k < 80
    · obtain ⟨a, st, pe, li, nn, rfl, ca0, ca1, ca2, ca3, wpe, wli, wnn⟩ := ((unhide HI).sub hlow) k hlt.1
      have hkI : (k : Int) < (n : Int) := by omega
      have hkJ : (k : Int) < 80 := by omega
      obtain ⟨blk, off, spot⟩ := a
      have hspot : spot = none := by
        obtain ⟨a0, _, _, _, _, e0, hc00, _⟩ := unhide HI 0 (by omega)
        cases e0
        simpa [Addr.add] using World.cell?_spot hc00
      subst hspot
      rw [Addr.add_lit] at ca0 ca1 ca2 ca3
      rw [← Nat.add_assoc] at ca1 ca2 ca3
      obtain ⟨V, hV⟩ : ∃ V, wr.alloc (.cells #[.bool st, .int .i64 pe, .int .i64 li, .int .i64 nn] 32) = V := ⟨_, rfl⟩
      have bV : Below wr.heap.size wr V := by rw [← hV]; exact (Below.refl _ wr).alloc (Nat.le_refl _) _
      have vC : V.heap[wr.heap.size]? = some (.cells #[.bool st, .int .i64 pe, .int .i64 li, .int .i64 nn] 32 (0, 0)) := by rw [← hV]; exact heap_alloc_new _ _
      obtain ⟨C, hC⟩ : ∃ C, wr.heap.size = C := ⟨_, rfl⟩
      rw [hC] at vC
      have lkV := hlk.below bV
      have xkV := hxk.below bV
      have lowV := hlow.trans (bV.mono hsz)
      have hrk : ref ≤ k := by obtain ⟨Ds, Dh, a1, a2, a3, a4, a5, a6, a7, a8, a9⟩ := hlk; exact a9
      have hok : (heard pe).ok := by obtain ⟨Ds, Dh, a1, a2, a3, a4, a5, a6, a7, a8, a9⟩ := hlk; exact a8 pe
      have hsk : sent pe ≤ k := by obtain ⟨Ds, Dh, a1, a2, a3, a4, a5, a6, a7, a8, a9⟩ := hlk; exact a7 pe
      have v0 : V.cell? ⟨C, 0, none⟩ = some (.bool st) := bcell vC rfl
      have v1 : V.cell? ⟨C, 1, none⟩ = some (.int .i64 pe) := bcell vC rfl
      have v2 : V.cell? ⟨C, 2, none⟩ = some (.int .i64 li) := bcell vC rfl
      have v3 : V.cell? ⟨C, 3, none⟩ = some (.int .i64 nn) := bcell vC rfl
      have LKV := hide lkV
      have XKV := hide xkV
      have LOV := hide lowV
      have AG := hide hag
      have VC := hide vC
      have HV := hide hV
      have HC := hide hC
      have HG := hide hgk
      have HLT := hide hlt
      have WF := hide (And.intro wpe (And.intro wli wnn))
      have OK := hide (And.intro hok (And.intro hrk hsk))
      clear hlk hxk hag hlow bV vC hV hC lkV xkV lowV hgk hlt wpe wli wnn hok hrk hsk S0
      cases st with
      | true =>
        go_upto_region 9 with fail
        rw [unhide HV, unhide HC]
        clear HV HC ca0 ca1 ca2 ca3
        have ST := stamp_any (base := w.heap.size) pe V (unhide WF).1 (by omega) (unhide PB) (unhide LOV).size (unhide LKV)
        obtain ⟨m, hm⟩ : ∃ m, sent pe + 1 = m := ⟨_, rfl⟩
        rw [hm] at ST
        have HST := hide ST
        have HM := hide hm
        clear ST hm
        go_wp2_with fail
        refine (unhide HST).mono ?_
        rintro e w4 ⟨rfl, l4, k4⟩
        have x4 := (unhide XKV).typed (unhide LKV) k4
        have c4 : w4.heap[C]? = some (.cells #[.bool true, .int .i64 pe, .int .i64 li, .int .i64 nn] 32 (0, 0)) := ((unhide LKV).typed k4 (unhide VC) (by decide)).trans (unhide VC)
        have ag := unhide AG
        have lo4 := (unhide LOV).trans k4.1
        have hse := (ag.2 pe).1
        have hsk := (unhide OK).2.2
        have SX := stampX_any (base := w.heap.size) pe w4 x4 (by have := ag.1; omega) lo4.size (by rw [← hse]; omega)
        have agU0 := ag.stamp pe
        rw [← hse] at SX
        rw [← hse] at agU0
        rw [unhide HM] at SX agU0
        have HSX := hide SX
        have L4 := hide l4
        have C4 := hide c4
        have LO4 := hide lo4
        have AG4 := hide agU0
        have e1 : w4.cell? ⟨C, 1, none⟩ = some (.int .i64 pe) := bcell c4 rfl
        clear l4 k4 x4 c4 ag lo4 hse hsk SX agU0 HST v0 v1 v2 v3
        go_wp2_with fail
        refine (unhide HSX).mono ?_
        rintro e U ⟨rfl, ⟨v5, xkU⟩, o5⟩
        have lkU := (unhide L4).only o5 (by decide)
        have agU := unhide AG4
        have loU := (unhide LO4).trans o5.1
        have cU : U.heap[C]? = some (.cells #[.bool true, .int .i64 pe, .int .i64 li, .int .i64 nn] 32 (0, 0)) := o5.block (unhide C4) (by decide)
        have wpe := (unhide WF).1
        clear o5 HSX L4 C4 LO4 AG4 e1
        have LF := hide (fun m => life_any pe (U.drewN m) wpe (lkU.below (drewN_below U m)))
        have LX := fun m => lifeOf_any pe (U.drewN m) (xkU.below (drewN_below U m)) (by have := agU.1; omega)
        rw [← (agU.2 pe).2.1] at LX
        have HLX := hide LX
        have RF := hide (fun m => refused_any (U.drewN m) (lkU.below (drewN_below U m)))
        obtain ⟨qx1, qx2, qx3, qx4⟩ := id xkU
        have r1 : U.cell? ⟨x, 1, none⟩ = some (.int .i64 (ref : Int)) := bcell qx2 rfl
        have u1 : U.cell? ⟨C, 1, none⟩ = some (.int .i64 pe) := bcell cU rfl
        have FIN := hide (show PlAt w.heap.size w U p s q x (T : Int) (k + 1) from ⟨_, _, _, _, _, lkU, xkU, agU, loU⟩)
        clear lkU xkU agU loU cU LX qx1 qx2 qx3 qx4 wpe
        go_upto_region 16 with fail
        refine wp_region_quiet_lit (by kernel_rfl) (by kernel_rfl) ?_
        repeat (
          with_reducible refine wpQuiet_step (fun K hK => ?_)
          go_simp
          first
            | (refine hK _ ?_; clear hK K)
            | (apply Exists.intro
               refine ⟨fun _ => ?_, hK _ ?_⟩
               (first
                 | (go_at_call 15; exact Calls.quiet_of_same (unhide LF _))
                 | (go_at_call 16; exact Calls.quiet_of_same (unhide HLX _))
                 | (go_at_call 17; exact Calls.quiet_of_same (unhide RF _)))
               clear hK K))
        refine wpQuiet_nil ?_
        intro _ hw'
        obtain ⟨nq, hw''⟩ := hw'
        subst hw''
        go_wp2
        go_roundg (80 - (k + 1))
        case measure => have := unhide HG; omega
        case rel =>
          obtain ⟨sent', heard', ref', v', ps', f1, f2, f3, f4⟩ := unhide FIN
          have hb := drewN_below U nq
          exact ⟨k + 1, by omega, (unhide HLT).1, by go_num, sent', heard', ref', v', ps', f1.below hb, f2.below hb, f3, f4.trans (hb.mono f4.size)⟩
      | false =>
        go_upto_region 9 with fail
        rw [unhide HV, unhide HC]
        clear HV HC ca0 ca1 ca2 ca3
        obtain ⟨e, he⟩ : ∃ e, takeE (heard pe) li nn = e := ⟨_, rfl⟩
        have TK := take_any (base := w.heap.size) pe li nn e V.drew (unhide WF).1 (unhide WF).2.1 (unhide WF).2.2 (by omega) (unhide PB) (unhide LOV).size ((unhide LKV).below (Below.refl _ V).drew) he
        have TX0 := fun (w4 : World) (hx : Xk w.heap.size w4 x v (T : Int) ref ps) (hb : w.heap.size ≤ w4.heap.size) => TakeX_any (base := w.heap.size) pe li nn e w4 (unhide WF).2.1 (unhide WF).2.2 hx (unhide AG) (unhide OK).1 (by omega) (by have := (unhide OK).2.1; omega) hb he
        obtain ⟨hd', hhd⟩ : ∃ hd', (if e = 0 then upH heard pe ((heard pe).taking li.toNat nn.toNat) else heard) = hd' := ⟨_, rfl⟩
        obtain ⟨rf', hrf⟩ : ∃ rf', (if e = 0 then ref else ref + 1) = rf' := ⟨_, rfl⟩
        rw [hhd, hrf] at TK
        rw [hhd, hrf] at TX0
        have HTK := hide TK
        have HTX0 := hide TX0
        have SV : Hid (V.drew.cell? ⟨C, 1, none⟩ = some (.int .i64 pe) ∧ V.drew.cell? ⟨C, 2, none⟩ = some (.int .i64 li) ∧ V.drew.cell? ⟨C, 3, none⟩ = some (.int .i64 nn)) := ⟨v1, v2, v3⟩
        clear TK TX0 he hhd hrf
        go_upto_region 14 with fail
        go_region_held_law (fun y => y.cell? ⟨C, 1, none⟩ = some (.int .i64 pe) ∧ y.cell? ⟨C, 2, none⟩ = some (.int .i64 li) ∧ y.cell? ⟨C, 3, none⟩ = some (.int .i64 nn))
          (first | exact unhide S5 | exact unhide S4 | exact unhide SV)
          (first
            | (go_at_call 13
               refine (unhide HTK).mono ?_
               rintro e' w4 ⟨rfl, l4, k4⟩
               have x4 := ((unhide XKV).below (Below.refl _ V).drew).typed ((unhide LKV).below (Below.refl _ V).drew) k4
               have c4 : w4.heap[C]? = some (.cells #[.bool false, .int .i64 pe, .int .i64 li, .int .i64 nn] 32 (0, 0)) := (((unhide LKV).below (Below.refl _ V).drew).typed k4 (unhide VC) (by decide)).trans (unhide VC)
               have lo4 := (unhide LOV).drew.trans k4.1
               have S4 : Hid (w4.cell? ⟨C, 1, none⟩ = some (.int .i64 pe) ∧ w4.cell? ⟨C, 2, none⟩ = some (.int .i64 li) ∧ w4.cell? ⟨C, 3, none⟩ = some (.int .i64 nn)) := ⟨bcell c4 rfl, bcell c4 rfl, bcell c4 rfl⟩
               have TX := hide (unhide HTX0 w4 x4 lo4.size)
               have L4 := hide l4
               have C4 := hide c4
               have LO4 := hide lo4
               clear l4 k4 x4 c4 lo4)
            | (go_at_call 14
               refine (unhide TX).mono ?_
               rintro e' U ⟨rfl, ⟨v5, ps5, xkU, agU⟩, o5⟩
               have lkU := (unhide L4).only o5 (by decide)
               have loU := (unhide LO4).trans o5.1
               have cU : U.heap[C]? = some (.cells #[.bool false, .int .i64 pe, .int .i64 li, .int .i64 nn] 32 (0, 0)) := o5.block (unhide C4) (by decide)
               have S5 : Hid (U.cell? ⟨C, 1, none⟩ = some (.int .i64 pe) ∧ U.cell? ⟨C, 2, none⟩ = some (.int .i64 li) ∧ U.cell? ⟨C, 3, none⟩ = some (.int .i64 nn)) := ⟨bcell cU rfl, bcell cU rfl, bcell cU rfl⟩
               have ST5 := hide (And.intro lkU (And.intro xkU (And.intro agU (And.intro loU cU))))
               clear lkU xkU agU loU cU o5))
        all_goals (
          obtain ⟨lkU, xkU, agU, loU, cU⟩ := unhide ST5
          have wpe := (unhide WF).1
          obtain ⟨rf', rfl⟩ : ∃ z, z = rf' := ⟨_, rfl⟩
          clear ST5 S4 S5 SV TX L4 C4 LO4 HTK HTX0 v0 v1 v2 v3
          have LF := hide (fun m => life_any pe (U.drewN m) wpe (lkU.below (drewN_below U m)))
          have LX := fun m => lifeOf_any pe (U.drewN m) (xkU.below (drewN_below U m)) (by have := agU.1; omega)
          rw [← (agU.2 pe).2.1] at LX
          have HLX := hide LX
          have RF := hide (fun m => refused_any (U.drewN m) (lkU.below (drewN_below U m)))
          obtain ⟨qx1, qx2, qx3, qx4⟩ := id xkU
          have r1 : U.cell? ⟨x, 1, none⟩ = some (.int .i64 (rf' : Int)) := bcell qx2 rfl
          have u1 : U.cell? ⟨C, 1, none⟩ = some (.int .i64 pe) := bcell cU rfl
          have FIN := hide (show PlAt w.heap.size w U p s q x (T : Int) (k + 1) from ⟨_, _, _, _, _, lkU, xkU, agU, loU⟩)
          clear lkU xkU agU loU cU LX qx1 qx2 qx3 qx4 wpe
          go_upto_region 16 with fail
          refine wp_region_quiet_lit (by kernel_rfl) (by kernel_rfl) ?_
          repeat (
            with_reducible refine wpQuiet_step (fun K hK => ?_)
            go_simp
            first
              | (refine hK _ ?_; clear hK K)
              | (apply Exists.intro
                 refine ⟨fun _ => ?_, hK _ ?_⟩
                 (first
                   | (go_at_call 15; exact Calls.quiet_of_same (unhide LF _))
                   | (go_at_call 16; exact Calls.quiet_of_same (unhide HLX _))
                   | (go_at_call 17; exact Calls.quiet_of_same (unhide RF _)))
                 clear hK K))
          refine wpQuiet_nil ?_
          intro _ hw'
          obtain ⟨nq, hw''⟩ := hw'
          subst hw''
          go_wp2
          go_roundg (80 - (k + 1))
          case measure => have := unhide HG; omega
          case rel =>
            obtain ⟨sent', heard', ref', v', ps', f1, f2, f3, f4⟩ := unhide FIN
            have hb := drewN_below U nq
            exact ⟨k + 1, by omega, (unhide HLT).1, by go_num, sent', heard', ref', v', ps', f1.below hb, f2.below hb, f3, f4.trans (hb.mono f4.size)⟩)
    · have HL := hide hlow
      clear hlk hxk hag hlow hgk S0
      by_cases hkn' : k < n
      · have hkI : (k : Int) < (n : Int) := by omega
        have hkJ : ¬ (k : Int) < 80 := by omega
        clear hlt
        go_wp2
        go_ret
        exact ⟨rfl, unhide HL⟩
      · have hkI : ¬ (k : Int) < (n : Int) := by omega
        clear hlt
        go_wp2
        go_ret
        exact ⟨rfl, unhide HL⟩
end Go.Proofs.Ytkanolmcaoecgaa
