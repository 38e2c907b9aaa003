/- SealIndexes: the walk. -/
import Derived.Test.YtgllokinadjiaaaSIdxA
import Derived.Test.YtgllokinadjiaaaSXSame
namespace Go.Proofs.Ytgllokinadjiaaa
open Go.RowKit Go.Maps
attribute [local go_sem ↓] Go.wp_at_zero Go.wp_at_succ

/-- within, its answer by a letter. -/
theorem within_int' (n m : Int) (h1 : 0 < m) (h2 : m ≤ 1000000) : ∃ z : Int, (0 ≤ z ∧ z < m) ∧ ∀ w, Calls Try.prog 11 #[.int .i64 n, .int .i64 m] w fun e w' => e = .returned (.int .i64 z) ∧ Below w.heap.size w w' :=
  ⟨n % m, ⟨Int.emod_nonneg n (by omega), Int.emod_lt_of_pos n h1⟩, fun w => (within_any n m w h1 (by omega)).mono (by rintro e w' ⟨rfl, rfl⟩; exact ⟨rfl, Below.refl _ _⟩)⟩
theorem wrapped (a : Int) (h1 : -1000000 ≤ a) (h2 : a ≤ 1000000) : IntKind.i64.wrap a = a := IntWalk.i64_in _ (by omega)
/-- generations, at a block, of memory that is not older than a world. -/
def At (w0 w : World) (p : Nat) (gs : List Gn) : Prop := Chn gs ∧ ∃ D, Gs D w p gs ∧ ∀ k, D k → w0.heap.size ≤ k
/-- of an index that is none there is none. -/
theorem at_zero {gs : List Gn} (h : Chn gs) : atOf gs 0 = zeroGn := by
  unfold atOf
  rw [List.find?_eq_none.2]
  · rfl
  · intro g hg
    rw [List.mem_reverse] at hg
    obtain ⟨i, hi⟩ := List.getElem?_of_mem hg
    have := (h.hi i g hi).1
    simp
    omega
set_option maxRecDepth 20000 in
set_option maxHeartbeats 8000000 in
theorem idx_walk (ao : Option Addr) (n cap : Nat) (ys : List Int) (hn : ys.length = n) (_hnl : n ≤ maxLen) (bits : Int) (w : World) (h : IntsR w ao ys) : Calls Try.prog 3 #[.slice ao n cap, .int .i64 bits] w fun e w' => e = .returned (.bool true) ∧ Below w.heap.size w w' := by
  have C0 := hide (known_any w)
  obtain ⟨ms, hp, -, CP⟩ := plain_pl bits
  have HP := hide hp
  have CP' := hide CP
  have HI := hide h
  have HN := hide hn
  have QN := eq_ptr_nil
  have FN := field_n
  have FB := field_base
  clear hp CP h hn
  go_enter Try.func3, Try.ntmps3
  go_wp2_with fail
  refine (unhide C0).mono ?_
  rintro e w1 ⟨rfl, z1⟩
  have B1 := hide z1
  have C1 := hide (unhide CP' w1)
  clear z1 C0
  go_wp2_with fail
  refine (unhide C1).mono ?_
  rintro e w2 ⟨an, m, cn, rfl, hm, -, hfr, z2⟩
  have hm7 : m ≤ 7 := by rw [← hm]; exact (unhide HP).2.1
  have C2 := hide (new_ok w2 ⟨1, 1, 0, ms⟩ none an 0 0 m cn [] rfl hm (by decide) (by omega) (IntsR.nil _ _) hfr.1 (wrong_pl (unhide HP) (Or.inl rfl) (show (0 : Int) ≤ 0 by decide) (show (1 : Int) ≤ 1 by decide)))
  have B2 := hide (below_far (unhide B1) z2)
  clear z2 hm hfr hm7 C1
  go_wp2_with fail
  refine (unhide C2).mono ?_
  rintro e w3 ⟨p, D, rfl, g3, hD, z3⟩
  have B3 := hide (below_far (unhide B2) z3)
  have A3 : Hid (At w w3 p [⟨1, 1, 0, ms⟩]) := hide ⟨Chn.one ms 1, D, g3, fun k hk => Nat.le_trans (unhide B2).size (hD k hk)⟩
  clear g3 hD z3 C2
  go_wp2
  go_loopw [7] (fun i wr => ∃ (j : Nat) (gs : List Gn), i = .int .i64 j ∧ j ≤ 20 ∧ gs.length = j + 1 ∧ At w wr p gs ∧ Below w.heap.size w wr) (fun i _ => 20 - (intOf i).toNat)
  case atStart => exact ⟨0, _, rfl, by omega, rfl, unhide A3, unhide B3⟩
  case round =>
    obtain ⟨j, gs, rfl, hj, hgl, hat, hb⟩ := hrel
    have HGL := hide hgl
    have AT := hide hat
    have HB := hide hb
    clear hgl hat hb
    by_cases h1 : j < n
    · by_cases h2 : j < 20
      · have q1 : (j : Int) < (n : Int) := by omega
        have q2 : (j : Int) < 20 := by omega
        have q0 : (0 : Int) ≤ (j : Int) := by omega
        obtain ⟨D, hg, hD⟩ := (unhide AT).2
        have ch := (unhide AT).1
        obtain ⟨l, hl⟩ : ∃ l, gs[gs.length - 1]? = some l := ⟨_, List.getElem?_eq_getElem (by rw [unhide HGL]; omega)⟩
        obtain ⟨ad, rfl, hyw⟩ := (unhide HI) j (by rw [unhide HN]; exact h1)
        have hlow := blk_lt hyw
        have hy := ((unhide HB).cell hlow).trans hyw
        obtain ⟨s, hs⟩ : ∃ s, ys.getD j 0 = s := ⟨_, rfl⟩
        rw [hs] at hy
        have hln := ch.num _ _ hl
        have hlb := ch.hi _ _ hl
        rw [unhide HGL, Nat.add_sub_cancel] at hln hlb
        obtain ⟨z, hz, CW⟩ := within_int' s 4 (by decide) (by decide)
        obtain ⟨ns, hns, -, CPS⟩ := plain_pl s
        obtain ⟨x1, hx1⟩ : ∃ x, IntKind.i64.wrap (l.base + 1) = x := ⟨_, rfl⟩
        have hx1' : x1 = l.base + 1 := by rw [← hx1]; exact wrapped _ (by omega) (by omega)
        obtain ⟨x2, hx2⟩ : ∃ x, IntKind.i64.wrap (x1 + z) = x := ⟨_, rfl⟩
        have hx2' : x2 = l.base + 1 + z := by rw [← hx2, wrapped _ (by omega) (by omega), hx1']
        obtain ⟨r, hr⟩ : ∃ r, (j : Int).tmod 2 = r := ⟨_, rfl⟩
        have hr2 : r = 0 ∨ r = 1 := by rw [← hr, Int.tmod_eq_emod_of_nonneg q0]; omega
        obtain ⟨e1, he1⟩ : ∃ x, IntKind.i64.wrap (1 + r) = x := ⟨_, rfl⟩
        have he1' : e1 = 1 ∨ e1 = 2 := by rw [← he1, wrapped _ (by omega) (by omega)]; omega
        have hwn : IntKind.i64.wrap (l.n + 1) = l.n + 1 := wrapped _ (by omega) (by omega)
        have CNW := hide (fun Y (hY : Below wr.heap.size wr Y) => now_any (hg.below hY) (by rw [unhide HGL]; omega) hl)
        have CWI := hide CW
        have CPL := hide CPS
        have CSE := hide (fun Y (hY : Below wr.heap.size wr Y) (bn : Option Addr) (k c : Nat) (hk : ns.length = k) (hi : IntsR Y bn ns) => seal_ok (hg.below hY) (by rw [unhide HGL]; omega) hl x2 e1 none bn 0 0 k c [] ns rfl hk (by decide) (by rw [← hk]; exact Nat.le_trans hns.2.1 (by decide)) (IntsR.nil _ _) hi (seal_pl hns hl (by rw [unhide HGL]; omega) he1' (by omega)))
        have FIN : Hid (∀ Y Z, Below wr.heap.size wr Y → Gs (News D Y Z) Z p (gs ++ [⟨IntKind.i64.wrap (l.n + 1), e1, x2, ns⟩]) → Kp D Y Z → At w Z p (gs ++ [⟨l.n + 1, e1, x2, ns⟩]) ∧ Below w.heap.size w Z) := hide (fun Y Z hY hgz hk => by
          rw [hwn] at hgz
          refine ⟨⟨by rw [hx2']; exact ch.push hl hz ns, _, hgz, fun k hk' => ?_⟩, (below_far (unhide HB) hY).trans (hk.below (base := w.heap.size) hD (below_far (unhide HB) hY).size)⟩
          rcases hk' with hk' | hk'
          · exact hD k hk'
          · exact Nat.le_trans (below_far (unhide HB) hY).size hk'.1)
        have SX := hide (fun Y (hY : Below wr.heap.size wr Y) => ((hY.cell (blk_lt hy)).trans hy : Y.cell? (ad.add j) = some (.int .i64 s)))
        have SK := hide (fun Y Z (hY : Below wr.heap.size wr Y) (hk : Kp D Y Z) => (hk.cell ((hY.cell (blk_lt hy)).trans hy) (fun hd => by have h2 := hD _ hd; omega) : Z.cell? (ad.add j) = some (.int .i64 s)))
        clear hg hD ch hl hln hlb hy hyw hlow hs hz CW CPS hx1' hx2' hr2 he1' hwn hns
        have EZ := hide (Below.refl wr.heap.size wr)
        obtain ⟨ln, le, lb, lms⟩ := l
        simp only at hx1
        unfold gnV at CNW
        simp only at CNW
        go_upto_region 9 with fail
        go_region_held3 (fun Y => Y.cell? (ad.add j) = some (.int .i64 s)) (first | with_reducible exact unhide SX _ (unhide EZ) | with_reducible exact unhide SX _ (unhide EZ).drew | with_reducible exact unhide SE | with_reducible exact (unhide SE) | fail)
          (first
          | (go_at_call 10
             refine (unhide CNW _ (by first | exact unhide EZ | exact (unhide EZ).drew | fail)).mono ?_
             rintro e z1 ⟨bn, rfl, -, bz⟩
             have EN := hide (below_far (by first | exact unhide EZ | exact (unhide EZ).drew | fail) bz)
             clear EZ bz
             have EZ := EN
             clear EN)
          | (go_at_call 11
             refine (unhide CWI _).mono ?_
             rintro e z2 ⟨rfl, bz⟩
             have EN := hide (below_far (by first | exact unhide EZ | exact (unhide EZ).drew | fail) bz)
             clear EZ bz
             have EZ := EN
             clear EN)
          | (go_at_call 8
             refine (unhide CPL _).mono ?_
             rintro e z3 ⟨bp, kp, cp, rfl, hk, -, hfr, bz⟩
             have EN := hide (below_far (by first | exact unhide EZ | exact (unhide EZ).drew | fail) bz)
             clear EZ bz
             have EZ := EN
             clear EN
             have HK := hide hk
             have HF := hide (fun Y (hY : Below z3.heap.size z3 Y) => hfr.1.below hY)
             clear hk hfr)
          | (go_at_call 9
             refine (unhide CSE _ (by first | exact unhide EZ | exact (unhide EZ).drew | fail) _ _ _ (unhide HK) (unhide HF _ (by first | exact Below.refl _ _ | exact (Below.refl _ _).drew | fail))).mono ?_
             rintro e z4 ⟨rfl, gz, kz⟩
             have FZ := hide (unhide FIN _ _ (by first | exact unhide EZ | exact (unhide EZ).drew | fail) gz kz)
             have SE := hide (unhide SK _ _ (by first | exact unhide EZ | exact (unhide EZ).drew | fail) kz)
             clear gz kz)
          | fail)
        go_wp2
        go_roundw
        case rel => exact ⟨j + 1, _, by go_num, by omega, by rw [List.length_append, unhide HGL]; rfl, (unhide FZ).1, (unhide FZ).2⟩
        case measure => simp [intOf]; omega
      · have q1 : (j : Int) < (n : Int) := by omega
        have q2 : ¬ (j : Int) < 20 := by omega
        skip
        obtain ⟨D, hg, hD⟩ := (unhide AT).2
        have ch := (unhide AT).1
        obtain ⟨L, hL⟩ : ∃ L, gs.length = L := ⟨_, rfl⟩
        have hL1 : 1 ≤ L := by rw [← hL, unhide HGL]; omega
        have hL21 : L ≤ 21 := by rw [← hL, unhide HGL]; omega
        obtain ⟨l, hl⟩ : ∃ l, gs[gs.length - 1]? = some l := ⟨_, List.getElem?_eq_getElem (by omega)⟩
        have hln := ch.num _ _ hl
        have hlb := ch.hi _ _ hl
        rw [hL] at hln hlb
        have hln' : l.n = (L : Int) := by omega
        have CA := hide (all_any hg hL (by omega))
        have CH := hide ch
        have HLL := hide hL
        have HG := hide hg
        have HL' := hide hl
        have HLN := hide hln'
        have HLB : Hid (0 ≤ l.base ∧ l.base ≤ 84) := hide (by omega)
        clear hg hD ch hln hlb hln' hL hl
        go_wp2_with fail
        refine (unhide CA).mono ?_
        rintro e wl ⟨bl, rfl, rl, zl⟩
        have BL := hide (below_far (unhide HB) zl)
        have RL := hide rl
        have GL := hide ((unhide HG).below zl)
        have CNW := hide (fun Y (hY : Below wl.heap.size wl Y) => now_any ((unhide GL).below hY) (by rw [unhide HLL]; omega) (unhide HL'))
        have CAT := hide (fun Y (hY : Below wl.heap.size wl Y) (k : Int) => at_any ((unhide GL).below hY) (unhide CH).ne (by rw [unhide HLL]; omega) k)
        have CFE := hide (fun Y (hY : Below wl.heap.size wl Y) (a : Int) => fence_any ((unhide GL).below hY) (by rw [unhide HLL]; omega) (unhide HL') a)
        simp only [unhide HLN] at CFE
        obtain ⟨x3, hx3⟩ : ∃ x, IntKind.i64.wrap (l.base + 3) = x := ⟨_, rfl⟩
        have HX3 : Hid (3 ≤ x3 ∧ x3 ≤ 87) := hide (by rw [← hx3, wrapped _ (by have := unhide HLB; omega) (by have := unhide HLB; omega)]; have := unhide HLB; omega)
        obtain ⟨ln, le, lb, lms⟩ := l
        simp only at hx3
        unfold gnV at CNW CAT
        simp only at CNW
        clear rl zl CA HG
        go_wp2
        go_loopw [9, 10] (fun i _ wq => ∃ k : Int, i = .int .i64 k ∧ 1 ≤ k ∧ k ≤ x3 + 1 ∧ Below wl.heap.size wl wq) (fun i _ _ => (x3 + 1 - intOf i).toNat)
        case atStart => exact ⟨1, rfl, by decide, by have := unhide HX3; omega, Below.refl _ _⟩
        case round =>
          obtain ⟨k, rfl, hk1, hkx, hbq⟩ := hrel
          have C1 := hide (unhide CNW _ hbq)
          have BQ := hide hbq
          have HK1 := hide hk1
          have hwk : IntKind.i64.wrap (k + 1) = k + 1 := wrapped _ (by omega) (by have := unhide HX3; omega)
          clear hbq hk1 hkx
          by_cases hk : k ≤ x3
          · go_wp2_with fail
            refine (unhide C1).mono ?_
            rintro e v1 ⟨bn, rfl, -, z1⟩
            have C2 := hide (unhide CAT _ (below_far (unhide BQ) z1) k)
            have B1 := hide (below_far (unhide BQ) z1)
            clear z1 C1
            go_wp2_with fail
            refine (unhide C2).mono ?_
            rintro e v2 ⟨mo, mc, rfl, oi, z2⟩
            obtain ⟨i, hi, hib, hin⟩ := (unhide CH).at (unhide HK1)
            have hnum := (unhide CH).num i _ hi
            have hil : i < L := by have := (List.getElem?_eq_some_iff.1 hi).1; rw [unhide HLL] at this; exact this
            obtain ⟨bl', ro, rc, e1, -, r0, r1, r2, r3, r4, ro', -, rl4⟩ := (unhide RL).at hi
            cases e1
            obtain ⟨a, ha⟩ : ∃ a, atOf gs k = a := ⟨_, rfl⟩
            rw [ha] at hi hib hnum r0 r1 r2 r4 ro' rl4 oi ⊢
            obtain ⟨q, hq⟩ : ∃ q : Nat, q = i + 1 := ⟨_, rfl⟩
            have hqn : a.n = (q : Int) := by rw [hnum, hq]; omega
            rw [← hq] at hin
            obtain ⟨an', ae, ab, ams⟩ := a
            simp only at hib hqn r0 r1 r2 r4 ro' rl4 oi ⊢
            subst hqn
            obtain ⟨y, hy⟩ : ∃ y, ams.length = y := ⟨_, rfl⟩
            rw [hy] at r4 ro' oi rl4 ⊢
            obtain ⟨V, hV, zV, xV⟩ := boxG v2 (q : Int) ae ab none mo 0 0 y mc
            obtain ⟨c, hc⟩ : ∃ c, v2.heap.size = c := ⟨_, rfl⟩
            rw [hc] at xV
            have bV := below_far (unhide B1) (below_far z2 zV)
            have f0 : ∀ s : Bel V, s.w.cell? ⟨c, 0, none⟩ = some (.int .i64 (q : Int)) := fun s => s.cell ((cell_of_block xV).trans rfl)
            have f1 : ∀ s : Bel V, s.w.cell? ⟨c, 1, none⟩ = some (.int .i64 ae) := fun s => s.cell ((cell_of_block xV).trans rfl)
            have f2 : ∀ s : Bel V, s.w.cell? ⟨c, 2, none⟩ = some (.int .i64 ab) := fun s => s.cell ((cell_of_block xV).trans rfl)
            have f3 : ∀ s : Bel V, s.w.cell? ⟨c, 3, none⟩ = some (.slice none 0 0) := fun s => s.cell ((cell_of_block xV).trans rfl)
            have f4 : ∀ s : Bel V, s.w.cell? ⟨c, 4, none⟩ = some (.slice mo y mc) := fun s => s.cell ((cell_of_block xV).trans rfl)
            have t0 : ∀ s : Bel V, s.w.cell? ⟨bl, i * 5, none⟩ = some (.int .i64 (q : Int)) := fun s => s.cell ((bV.cell (blk_lt r0)).trans r0)
            have t1 : ∀ s : Bel V, s.w.cell? ⟨bl, i * 5 + 1, none⟩ = some (.int .i64 ae) := fun s => s.cell ((bV.cell (blk_lt r1)).trans r1)
            have t2 : ∀ s : Bel V, s.w.cell? ⟨bl, i * 5 + 2, none⟩ = some (.int .i64 ab) := fun s => s.cell ((bV.cell (blk_lt r2)).trans r2)
            have t3 : ∀ s : Bel V, s.w.cell? ⟨bl, i * 5 + 3, none⟩ = some (.slice none 0 0) := fun s => s.cell ((bV.cell (blk_lt r3)).trans r3)
            have t4 : ∀ s : Bel V, s.w.cell? ⟨bl, i * 5 + 4, none⟩ = some (.slice ro y rc) := fun s => s.cell ((bV.cell (blk_lt r4)).trans r4)
            have CS := xsame_gn ⟨(q : Int), ae, ab, ams⟩ ⟨(q : Int), ae, ab, ams⟩ mo ro y y mc rc hy hy rl4
            rw [gsame_self] at CS
            simp only at CS
            have CSB := hide (fun s : Bel V => s.call (CS s.w ((oi.inF.below zV).below s.b).ints ((ro'.inF.below bV).below s.b).ints))
            have p1 : ¬ k ≤ ab := by omega
            have p2 : ¬ (q : Int) < 1 := by omega
            have p3 : ¬ (L : Int) < (q : Int) := by omega
            have hs1 : IntKind.i64.wrap ((q : Int) - 1) = (i : Int) := by rw [wrapped _ (by omega) (by omega)]; omega
            have p4 : (i : Int) < (L : Int) := by omega
            have p40 : (0 : Int) ≤ (i : Int) := by omega
            have HV := hide hV
            have HC := hide hc
            have BV := hide bV
            clear oi z2 hi hib hnum r0 r1 r2 r3 r4 ro' rl4 hy hV zV xV hc bV CS ha C2
            by_cases hqL : q < L
            · have p5 : (q : Int) < (L : Int) := by omega
              have p50 : (0 : Int) ≤ (q : Int) := by omega
              obtain ⟨g', hg'⟩ : ∃ g', gs[q]? = some g' := ⟨_, List.getElem?_eq_getElem (by rw [unhide HLL]; exact hqL)⟩
              have hge := hin g' hg'
              obtain ⟨bl', ro2, rc2, e1, -, -, -, u2, -, -, -, -, -⟩ := (unhide RL).at hg'
              cases e1
              have s2 : ∀ s : Bel V, s.w.cell? ⟨bl, q * 5 + 2, none⟩ = some (.int .i64 g'.base) := fun s => s.cell (((unhide BV).cell (blk_lt u2)).trans u2)
              have p6 : ¬ g'.base < k := by omega
              clear hge hg' u2 hin hq hil hqL
              go_upto_region 16 with fail
              rw [unhide HV, unhide HC]
              have nebel := Bel.ne V
              refine quiet_bel (by kernel_rfl) (by kernel_rfl) ?_
              repeat (go_big_quiet_step (first | exact unhide CSB _ | fail))
              refine wpQuiet_nil ?_
              intro wq hwq
              have bq := Bel.of hwq
              clear hwq nebel
              go_wp2
              go_roundw
              case rel => exact ⟨k + 1, by go_num, by have := unhide HK1; omega, by omega, below_far (unhide BV) bq⟩
              case measure => simp [intOf]; omega
            · have p5 : ¬ (q : Int) < (L : Int) := by omega
              clear hin hq hil hqL
              go_upto_region 16 with fail
              rw [unhide HV, unhide HC]
              have nebel := Bel.ne V
              refine quiet_bel (by kernel_rfl) (by kernel_rfl) ?_
              repeat (go_big_quiet_step (first | exact unhide CSB _ | fail))
              refine wpQuiet_nil ?_
              intro wq hwq
              have bq := Bel.of hwq
              clear hwq nebel
              go_wp2
              go_roundw
              case rel => exact ⟨k + 1, by go_num, by have := unhide HK1; omega, by omega, below_far (unhide BV) bq⟩
              case measure => simp [intOf]; omega
          · go_wp2_with fail
            refine (unhide C1).mono ?_
            rintro e v1 ⟨bn, rfl, -, z1⟩
            have B1 := hide (below_far (unhide BQ) z1)
            clear z1 C1 hwk
            go_wp2
            go_loopw [11] (fun i wq => ∃ q : Nat, i = .int .i64 q ∧ q ≤ L ∧ Below wl.heap.size wl wq) (fun i _ => L - (intOf i).toNat)
            case atStart => exact ⟨0, rfl, Nat.zero_le _, unhide B1⟩
            case round =>
              obtain ⟨q, rfl, hqL, hb2⟩ := hrel
              have B2 := hide hb2
              by_cases hlt : q < L
              · obtain ⟨g, hg⟩ : ∃ g, gs[q]? = some g := ⟨_, List.getElem?_eq_getElem (by rw [unhide HLL]; exact hlt)⟩
                have hnum := (unhide CH).num q g hg
                obtain ⟨bl', ro, rc, e1, -, r0, -, r2, r3, r4, ro', -, rl4⟩ := (unhide RL).at hg
                cases e1
                obtain ⟨y, hy⟩ : ∃ y, g.ms.length = y := ⟨_, rfl⟩
                rw [hnum] at r0
                rw [hy] at r4 ro' rl4
                have t0 : ∀ s : Bel wr, s.w.cell? ⟨bl, q * 5, none⟩ = some (.int .i64 ((q : Int) + 1)) := fun s => s.cell ((hb2.cell (blk_lt r0)).trans r0)
                have t2 : ∀ s : Bel wr, s.w.cell? ⟨bl, q * 5 + 2, none⟩ = some (.int .i64 g.base) := fun s => s.cell ((hb2.cell (blk_lt r2)).trans r2)
                have t3 : ∀ s : Bel wr, s.w.cell? ⟨bl, q * 5 + 3, none⟩ = some (.slice none 0 0) := fun s => s.cell ((hb2.cell (blk_lt r3)).trans r3)
                have t4 : ∀ s : Bel wr, s.w.cell? ⟨bl, q * 5 + 4, none⟩ = some (.slice ro y rc) := fun s => s.cell ((hb2.cell (blk_lt r4)).trans r4)
                have t4' : ∀ s : Bel wr, s.w.cell? ⟨bl, q * 5 + 3 + 1, none⟩ = some (.slice ro y rc) := t4
                have CSB := hide (fun s : Bel wr => s.call (rsame_self ro ro y rc rc g.ms hy rl4 s.w ((ro'.inF.below hb2).below s.b).ints ((ro'.inF.below hb2).below s.b).ints))
                have p1 : (q : Int) < (L : Int) := by omega
                have p10 : (0 : Int) ≤ (q : Int) := by omega
                have hw1 : IntKind.i64.wrap ((q : Int) + 1) = (q : Int) + 1 := wrapped _ (by omega) (by omega)
                have R0 := hide r0
                have NX := hide (fun (m : Nat) (g0 : Gn) (hm : m + 1 = q) (h0 : gs[m]? = some g0) => (unhide CH).rise m g0 g h0 (by rw [hm]; exact hg))
                clear hb2 hnum r0 r2 r3 r4 ro' rl4 hy hg
                by_cases h0 : 0 < q
                · obtain ⟨m, hm⟩ : ∃ m, m + 1 = q := ⟨q - 1, by omega⟩
                  obtain ⟨g0, hg0⟩ : ∃ g0, gs[m]? = some g0 := ⟨_, List.getElem?_eq_getElem (by rw [unhide HLL]; omega)⟩
                  have hri := unhide NX m g0 hm hg0
                  obtain ⟨bl', ro2, rc2, e1, -, -, -, u2, -, -, -, -, -⟩ := (unhide RL).at hg0
                  cases e1
                  have s2 : ∀ s : Bel wr, s.w.cell? ⟨bl, m * 5 + 2, none⟩ = some (.int .i64 g0.base) := fun s => s.cell (((unhide B2).cell (blk_lt u2)).trans u2)
                  have p2 : (0 : Int) < (q : Int) := by omega
                  have p3 : ¬ g.base ≤ g0.base := by omega
                  have hs1 : IntKind.i64.wrap ((q : Int) - 1) = (m : Int) := by rw [wrapped _ (by omega) (by omega)]; omega
                  have p4 : (m : Int) < (L : Int) := by omega
                  have p40 : (0 : Int) ≤ (m : Int) := by omega
                  clear hri hg0 u2 NX hm
                  go_upto_region 21 with fail
                  have nebel := Bel.ne wr
                  refine quiet_bel (by kernel_rfl) (by kernel_rfl) ?_
                  repeat (go_big_quiet_step (first | exact unhide CSB _ | fail))
                  refine wpQuiet_nil ?_
                  intro wq hwq
                  have bq := Bel.of hwq
                  clear hwq nebel
                  clear t0 t2 t3 t4 t4'
                  have hbv := below_far (unhide B2) bq
                  have r0v := (bq.cell (blk_lt (((unhide B2).cell (blk_lt (unhide R0))).trans (unhide R0)))).trans (((unhide B2).cell (blk_lt (unhide R0))).trans (unhide R0))
                  have CF := unhide CFE _ hbv ((q : Int) + 1)
                  have HBV := hide hbv
                  clear hbv bq
                  by_cases hlast : q + 1 = L
                  · rw [if_neg (by omega), if_neg (by omega)] at CF
                    have CF' := hide CF
                    have pe : ((q : Int) + 1 == (L : Int)) = true := by simp; omega
                    clear CF
                    go_wp2_with fail
                    refine (unhide CF').mono ?_
                    rintro e v3 ⟨rfl, z3⟩
                    have B3 := hide (below_far (unhide HBV) z3)
                    clear z3 CF' r0v
                    go_wp2
                    go_roundw
                    case rel => exact ⟨q + 1, by go_num, by omega, unhide B3⟩
                    case measure => simp [intOf]; omega
                  · rw [if_pos (by omega)] at CF
                    have CF' := hide CF
                    have pe : ((q : Int) + 1 == (L : Int)) = false := by simp; omega
                    clear CF
                    go_wp2_with fail
                    refine (unhide CF').mono ?_
                    rintro e v3 ⟨rfl, z3⟩
                    have B3 := hide (below_far (unhide HBV) z3)
                    clear z3 CF' r0v
                    go_wp2
                    go_roundw
                    case rel => exact ⟨q + 1, by go_num, by omega, unhide B3⟩
                    case measure => simp [intOf]; omega
                · have p2 : ¬ (0 : Int) < (q : Int) := by omega
                  clear NX
                  go_upto_region 21 with fail
                  have nebel := Bel.ne wr
                  refine quiet_bel (by kernel_rfl) (by kernel_rfl) ?_
                  repeat (go_big_quiet_step (first | exact unhide CSB _ | fail))
                  refine wpQuiet_nil ?_
                  intro wq hwq
                  have bq := Bel.of hwq
                  clear hwq nebel
                  clear t0 t2 t3 t4 t4'
                  have hbv := below_far (unhide B2) bq
                  have r0v := (bq.cell (blk_lt (((unhide B2).cell (blk_lt (unhide R0))).trans (unhide R0)))).trans (((unhide B2).cell (blk_lt (unhide R0))).trans (unhide R0))
                  have CF := unhide CFE _ hbv ((q : Int) + 1)
                  have HBV := hide hbv
                  clear hbv bq
                  by_cases hlast : q + 1 = L
                  · rw [if_neg (by omega), if_neg (by omega)] at CF
                    have CF' := hide CF
                    have pe : ((q : Int) + 1 == (L : Int)) = true := by simp; omega
                    clear CF
                    go_wp2_with fail
                    refine (unhide CF').mono ?_
                    rintro e v3 ⟨rfl, z3⟩
                    have B3 := hide (below_far (unhide HBV) z3)
                    clear z3 CF' r0v
                    go_wp2
                    go_roundw
                    case rel => exact ⟨q + 1, by go_num, by omega, unhide B3⟩
                    case measure => simp [intOf]; omega
                  · rw [if_pos (by omega)] at CF
                    have CF' := hide CF
                    have pe : ((q : Int) + 1 == (L : Int)) = false := by simp; omega
                    clear CF
                    go_wp2_with fail
                    refine (unhide CF').mono ?_
                    rintro e v3 ⟨rfl, z3⟩
                    have B3 := hide (below_far (unhide HBV) z3)
                    clear z3 CF' r0v
                    go_wp2
                    go_roundw
                    case rel => exact ⟨q + 1, by go_num, by omega, unhide B3⟩
                    case measure => simp [intOf]; omega
              · obtain rfl : q = L := by omega
                have C3 := unhide CFE _ hb2 ((q : Int) + 1)
                rw [if_neg (by omega), if_pos (by omega)] at C3
                have C3' := hide C3
                have hw1 : IntKind.i64.wrap ((q : Int) + 1) = (q : Int) + 1 := wrapped _ (by omega) (by omega)
                clear hb2 C3
                go_wp2_with fail
                refine (unhide C3').mono ?_
                rintro e v3 ⟨rfl, z3⟩
                have B3 := hide (below_far (unhide B2) z3)
                have C4 := unhide CFE _ (unhide B3) 0
                rw [if_pos (by omega)] at C4
                have C4' := hide C4
                clear z3 C4 C3'
                go_wp2_with fail
                refine (unhide C4').mono ?_
                rintro e v4 ⟨rfl, z4⟩
                have B4 := hide (below_far (unhide B3) z4)
                have C5 := unhide CAT _ (unhide B4) 0
                rw [at_zero (unhide CH)] at C5
                simp only [zeroGn] at C5
                have C5' := hide C5
                clear z4 C5 C4'
                go_wp2_with fail
                refine (unhide C5').mono ?_
                rintro e v5 ⟨mo, mc, rfl, -, z5⟩
                have B5 := hide (below_far (unhide BL) (below_far (unhide B4) z5))
                clear z5 C5'
                go_wp2
                go_ret
                exact ⟨rfl, unhide B5⟩
    · have q1 : ¬ (j : Int) < (n : Int) := by omega
      skip
      obtain ⟨D, hg, hD⟩ := (unhide AT).2
      have ch := (unhide AT).1
      obtain ⟨L, hL⟩ : ∃ L, gs.length = L := ⟨_, rfl⟩
      have hL1 : 1 ≤ L := by rw [← hL, unhide HGL]; omega
      have hL21 : L ≤ 21 := by rw [← hL, unhide HGL]; omega
      obtain ⟨l, hl⟩ : ∃ l, gs[gs.length - 1]? = some l := ⟨_, List.getElem?_eq_getElem (by omega)⟩
      have hln := ch.num _ _ hl
      have hlb := ch.hi _ _ hl
      rw [hL] at hln hlb
      have hln' : l.n = (L : Int) := by omega
      have CA := hide (all_any hg hL (by omega))
      have CH := hide ch
      have HLL := hide hL
      have HG := hide hg
      have HL' := hide hl
      have HLN := hide hln'
      have HLB : Hid (0 ≤ l.base ∧ l.base ≤ 84) := hide (by omega)
      clear hg hD ch hln hlb hln' hL hl
      go_wp2_with fail
      refine (unhide CA).mono ?_
      rintro e wl ⟨bl, rfl, rl, zl⟩
      have BL := hide (below_far (unhide HB) zl)
      have RL := hide rl
      have GL := hide ((unhide HG).below zl)
      have CNW := hide (fun Y (hY : Below wl.heap.size wl Y) => now_any ((unhide GL).below hY) (by rw [unhide HLL]; omega) (unhide HL'))
      have CAT := hide (fun Y (hY : Below wl.heap.size wl Y) (k : Int) => at_any ((unhide GL).below hY) (unhide CH).ne (by rw [unhide HLL]; omega) k)
      have CFE := hide (fun Y (hY : Below wl.heap.size wl Y) (a : Int) => fence_any ((unhide GL).below hY) (by rw [unhide HLL]; omega) (unhide HL') a)
      simp only [unhide HLN] at CFE
      obtain ⟨x3, hx3⟩ : ∃ x, IntKind.i64.wrap (l.base + 3) = x := ⟨_, rfl⟩
      have HX3 : Hid (3 ≤ x3 ∧ x3 ≤ 87) := hide (by rw [← hx3, wrapped _ (by have := unhide HLB; omega) (by have := unhide HLB; omega)]; have := unhide HLB; omega)
      obtain ⟨ln, le, lb, lms⟩ := l
      simp only at hx3
      unfold gnV at CNW CAT
      simp only at CNW
      clear rl zl CA HG
      go_wp2
      go_loopw [9, 10] (fun i _ wq => ∃ k : Int, i = .int .i64 k ∧ 1 ≤ k ∧ k ≤ x3 + 1 ∧ Below wl.heap.size wl wq) (fun i _ _ => (x3 + 1 - intOf i).toNat)
      case atStart => exact ⟨1, rfl, by decide, by have := unhide HX3; omega, Below.refl _ _⟩
      case round =>
        obtain ⟨k, rfl, hk1, hkx, hbq⟩ := hrel
        have C1 := hide (unhide CNW _ hbq)
        have BQ := hide hbq
        have HK1 := hide hk1
        have hwk : IntKind.i64.wrap (k + 1) = k + 1 := wrapped _ (by omega) (by have := unhide HX3; omega)
        clear hbq hk1 hkx
        by_cases hk : k ≤ x3
        · go_wp2_with fail
          refine (unhide C1).mono ?_
          rintro e v1 ⟨bn, rfl, -, z1⟩
          have C2 := hide (unhide CAT _ (below_far (unhide BQ) z1) k)
          have B1 := hide (below_far (unhide BQ) z1)
          clear z1 C1
          go_wp2_with fail
          refine (unhide C2).mono ?_
          rintro e v2 ⟨mo, mc, rfl, oi, z2⟩
          obtain ⟨i, hi, hib, hin⟩ := (unhide CH).at (unhide HK1)
          have hnum := (unhide CH).num i _ hi
          have hil : i < L := by have := (List.getElem?_eq_some_iff.1 hi).1; rw [unhide HLL] at this; exact this
          obtain ⟨bl', ro, rc, e1, -, r0, r1, r2, r3, r4, ro', -, rl4⟩ := (unhide RL).at hi
          cases e1
          obtain ⟨a, ha⟩ : ∃ a, atOf gs k = a := ⟨_, rfl⟩
          rw [ha] at hi hib hnum r0 r1 r2 r4 ro' rl4 oi ⊢
          obtain ⟨q, hq⟩ : ∃ q : Nat, q = i + 1 := ⟨_, rfl⟩
          have hqn : a.n = (q : Int) := by rw [hnum, hq]; omega
          rw [← hq] at hin
          obtain ⟨an', ae, ab, ams⟩ := a
          simp only at hib hqn r0 r1 r2 r4 ro' rl4 oi ⊢
          subst hqn
          obtain ⟨y, hy⟩ : ∃ y, ams.length = y := ⟨_, rfl⟩
          rw [hy] at r4 ro' oi rl4 ⊢
          obtain ⟨V, hV, zV, xV⟩ := boxG v2 (q : Int) ae ab none mo 0 0 y mc
          obtain ⟨c, hc⟩ : ∃ c, v2.heap.size = c := ⟨_, rfl⟩
          rw [hc] at xV
          have bV := below_far (unhide B1) (below_far z2 zV)
          have f0 : ∀ s : Bel V, s.w.cell? ⟨c, 0, none⟩ = some (.int .i64 (q : Int)) := fun s => s.cell ((cell_of_block xV).trans rfl)
          have f1 : ∀ s : Bel V, s.w.cell? ⟨c, 1, none⟩ = some (.int .i64 ae) := fun s => s.cell ((cell_of_block xV).trans rfl)
          have f2 : ∀ s : Bel V, s.w.cell? ⟨c, 2, none⟩ = some (.int .i64 ab) := fun s => s.cell ((cell_of_block xV).trans rfl)
          have f3 : ∀ s : Bel V, s.w.cell? ⟨c, 3, none⟩ = some (.slice none 0 0) := fun s => s.cell ((cell_of_block xV).trans rfl)
          have f4 : ∀ s : Bel V, s.w.cell? ⟨c, 4, none⟩ = some (.slice mo y mc) := fun s => s.cell ((cell_of_block xV).trans rfl)
          have t0 : ∀ s : Bel V, s.w.cell? ⟨bl, i * 5, none⟩ = some (.int .i64 (q : Int)) := fun s => s.cell ((bV.cell (blk_lt r0)).trans r0)
          have t1 : ∀ s : Bel V, s.w.cell? ⟨bl, i * 5 + 1, none⟩ = some (.int .i64 ae) := fun s => s.cell ((bV.cell (blk_lt r1)).trans r1)
          have t2 : ∀ s : Bel V, s.w.cell? ⟨bl, i * 5 + 2, none⟩ = some (.int .i64 ab) := fun s => s.cell ((bV.cell (blk_lt r2)).trans r2)
          have t3 : ∀ s : Bel V, s.w.cell? ⟨bl, i * 5 + 3, none⟩ = some (.slice none 0 0) := fun s => s.cell ((bV.cell (blk_lt r3)).trans r3)
          have t4 : ∀ s : Bel V, s.w.cell? ⟨bl, i * 5 + 4, none⟩ = some (.slice ro y rc) := fun s => s.cell ((bV.cell (blk_lt r4)).trans r4)
          have CS := xsame_gn ⟨(q : Int), ae, ab, ams⟩ ⟨(q : Int), ae, ab, ams⟩ mo ro y y mc rc hy hy rl4
          rw [gsame_self] at CS
          simp only at CS
          have CSB := hide (fun s : Bel V => s.call (CS s.w ((oi.inF.below zV).below s.b).ints ((ro'.inF.below bV).below s.b).ints))
          have p1 : ¬ k ≤ ab := by omega
          have p2 : ¬ (q : Int) < 1 := by omega
          have p3 : ¬ (L : Int) < (q : Int) := by omega
          have hs1 : IntKind.i64.wrap ((q : Int) - 1) = (i : Int) := by rw [wrapped _ (by omega) (by omega)]; omega
          have p4 : (i : Int) < (L : Int) := by omega
          have p40 : (0 : Int) ≤ (i : Int) := by omega
          have HV := hide hV
          have HC := hide hc
          have BV := hide bV
          clear oi z2 hi hib hnum r0 r1 r2 r3 r4 ro' rl4 hy hV zV xV hc bV CS ha C2
          by_cases hqL : q < L
          · have p5 : (q : Int) < (L : Int) := by omega
            have p50 : (0 : Int) ≤ (q : Int) := by omega
            obtain ⟨g', hg'⟩ : ∃ g', gs[q]? = some g' := ⟨_, List.getElem?_eq_getElem (by rw [unhide HLL]; exact hqL)⟩
            have hge := hin g' hg'
            obtain ⟨bl', ro2, rc2, e1, -, -, -, u2, -, -, -, -, -⟩ := (unhide RL).at hg'
            cases e1
            have s2 : ∀ s : Bel V, s.w.cell? ⟨bl, q * 5 + 2, none⟩ = some (.int .i64 g'.base) := fun s => s.cell (((unhide BV).cell (blk_lt u2)).trans u2)
            have p6 : ¬ g'.base < k := by omega
            clear hge hg' u2 hin hq hil hqL
            go_upto_region 16 with fail
            rw [unhide HV, unhide HC]
            have nebel := Bel.ne V
            refine quiet_bel (by kernel_rfl) (by kernel_rfl) ?_
            repeat (go_big_quiet_step (first | exact unhide CSB _ | fail))
            refine wpQuiet_nil ?_
            intro wq hwq
            have bq := Bel.of hwq
            clear hwq nebel
            go_wp2
            go_roundw
            case rel => exact ⟨k + 1, by go_num, by have := unhide HK1; omega, by omega, below_far (unhide BV) bq⟩
            case measure => simp [intOf]; omega
          · have p5 : ¬ (q : Int) < (L : Int) := by omega
            clear hin hq hil hqL
            go_upto_region 16 with fail
            rw [unhide HV, unhide HC]
            have nebel := Bel.ne V
            refine quiet_bel (by kernel_rfl) (by kernel_rfl) ?_
            repeat (go_big_quiet_step (first | exact unhide CSB _ | fail))
            refine wpQuiet_nil ?_
            intro wq hwq
            have bq := Bel.of hwq
            clear hwq nebel
            go_wp2
            go_roundw
            case rel => exact ⟨k + 1, by go_num, by have := unhide HK1; omega, by omega, below_far (unhide BV) bq⟩
            case measure => simp [intOf]; omega
        · go_wp2_with fail
          refine (unhide C1).mono ?_
          rintro e v1 ⟨bn, rfl, -, z1⟩
          have B1 := hide (below_far (unhide BQ) z1)
          clear z1 C1 hwk
          go_wp2
          go_loopw [11] (fun i wq => ∃ q : Nat, i = .int .i64 q ∧ q ≤ L ∧ Below wl.heap.size wl wq) (fun i _ => L - (intOf i).toNat)
          case atStart => exact ⟨0, rfl, Nat.zero_le _, unhide B1⟩
          case round =>
            obtain ⟨q, rfl, hqL, hb2⟩ := hrel
            have B2 := hide hb2
            by_cases hlt : q < L
            · obtain ⟨g, hg⟩ : ∃ g, gs[q]? = some g := ⟨_, List.getElem?_eq_getElem (by rw [unhide HLL]; exact hlt)⟩
              have hnum := (unhide CH).num q g hg
              obtain ⟨bl', ro, rc, e1, -, r0, -, r2, r3, r4, ro', -, rl4⟩ := (unhide RL).at hg
              cases e1
              obtain ⟨y, hy⟩ : ∃ y, g.ms.length = y := ⟨_, rfl⟩
              rw [hnum] at r0
              rw [hy] at r4 ro' rl4
              have t0 : ∀ s : Bel wr, s.w.cell? ⟨bl, q * 5, none⟩ = some (.int .i64 ((q : Int) + 1)) := fun s => s.cell ((hb2.cell (blk_lt r0)).trans r0)
              have t2 : ∀ s : Bel wr, s.w.cell? ⟨bl, q * 5 + 2, none⟩ = some (.int .i64 g.base) := fun s => s.cell ((hb2.cell (blk_lt r2)).trans r2)
              have t3 : ∀ s : Bel wr, s.w.cell? ⟨bl, q * 5 + 3, none⟩ = some (.slice none 0 0) := fun s => s.cell ((hb2.cell (blk_lt r3)).trans r3)
              have t4 : ∀ s : Bel wr, s.w.cell? ⟨bl, q * 5 + 4, none⟩ = some (.slice ro y rc) := fun s => s.cell ((hb2.cell (blk_lt r4)).trans r4)
              have t4' : ∀ s : Bel wr, s.w.cell? ⟨bl, q * 5 + 3 + 1, none⟩ = some (.slice ro y rc) := t4
              have CSB := hide (fun s : Bel wr => s.call (rsame_self ro ro y rc rc g.ms hy rl4 s.w ((ro'.inF.below hb2).below s.b).ints ((ro'.inF.below hb2).below s.b).ints))
              have p1 : (q : Int) < (L : Int) := by omega
              have p10 : (0 : Int) ≤ (q : Int) := by omega
              have hw1 : IntKind.i64.wrap ((q : Int) + 1) = (q : Int) + 1 := wrapped _ (by omega) (by omega)
              have R0 := hide r0
              have NX := hide (fun (m : Nat) (g0 : Gn) (hm : m + 1 = q) (h0 : gs[m]? = some g0) => (unhide CH).rise m g0 g h0 (by rw [hm]; exact hg))
              clear hb2 hnum r0 r2 r3 r4 ro' rl4 hy hg
              by_cases h0 : 0 < q
              · obtain ⟨m, hm⟩ : ∃ m, m + 1 = q := ⟨q - 1, by omega⟩
                obtain ⟨g0, hg0⟩ : ∃ g0, gs[m]? = some g0 := ⟨_, List.getElem?_eq_getElem (by rw [unhide HLL]; omega)⟩
                have hri := unhide NX m g0 hm hg0
                obtain ⟨bl', ro2, rc2, e1, -, -, -, u2, -, -, -, -, -⟩ := (unhide RL).at hg0
                cases e1
                have s2 : ∀ s : Bel wr, s.w.cell? ⟨bl, m * 5 + 2, none⟩ = some (.int .i64 g0.base) := fun s => s.cell (((unhide B2).cell (blk_lt u2)).trans u2)
                have p2 : (0 : Int) < (q : Int) := by omega
                have p3 : ¬ g.base ≤ g0.base := by omega
                have hs1 : IntKind.i64.wrap ((q : Int) - 1) = (m : Int) := by rw [wrapped _ (by omega) (by omega)]; omega
                have p4 : (m : Int) < (L : Int) := by omega
                have p40 : (0 : Int) ≤ (m : Int) := by omega
                clear hri hg0 u2 NX hm
                go_upto_region 21 with fail
                have nebel := Bel.ne wr
                refine quiet_bel (by kernel_rfl) (by kernel_rfl) ?_
                repeat (go_big_quiet_step (first | exact unhide CSB _ | fail))
                refine wpQuiet_nil ?_
                intro wq hwq
                have bq := Bel.of hwq
                clear hwq nebel
                clear t0 t2 t3 t4 t4'
                have hbv := below_far (unhide B2) bq
                have r0v := (bq.cell (blk_lt (((unhide B2).cell (blk_lt (unhide R0))).trans (unhide R0)))).trans (((unhide B2).cell (blk_lt (unhide R0))).trans (unhide R0))
                have CF := unhide CFE _ hbv ((q : Int) + 1)
                have HBV := hide hbv
                clear hbv bq
                by_cases hlast : q + 1 = L
                · rw [if_neg (by omega), if_neg (by omega)] at CF
                  have CF' := hide CF
                  have pe : ((q : Int) + 1 == (L : Int)) = true := by simp; omega
                  clear CF
                  go_wp2_with fail
                  refine (unhide CF').mono ?_
                  rintro e v3 ⟨rfl, z3⟩
                  have B3 := hide (below_far (unhide HBV) z3)
                  clear z3 CF' r0v
                  go_wp2
                  go_roundw
                  case rel => exact ⟨q + 1, by go_num, by omega, unhide B3⟩
                  case measure => simp [intOf]; omega
                · rw [if_pos (by omega)] at CF
                  have CF' := hide CF
                  have pe : ((q : Int) + 1 == (L : Int)) = false := by simp; omega
                  clear CF
                  go_wp2_with fail
                  refine (unhide CF').mono ?_
                  rintro e v3 ⟨rfl, z3⟩
                  have B3 := hide (below_far (unhide HBV) z3)
                  clear z3 CF' r0v
                  go_wp2
                  go_roundw
                  case rel => exact ⟨q + 1, by go_num, by omega, unhide B3⟩
                  case measure => simp [intOf]; omega
              · have p2 : ¬ (0 : Int) < (q : Int) := by omega
                clear NX
                go_upto_region 21 with fail
                have nebel := Bel.ne wr
                refine quiet_bel (by kernel_rfl) (by kernel_rfl) ?_
                repeat (go_big_quiet_step (first | exact unhide CSB _ | fail))
                refine wpQuiet_nil ?_
                intro wq hwq
                have bq := Bel.of hwq
                clear hwq nebel
                clear t0 t2 t3 t4 t4'
                have hbv := below_far (unhide B2) bq
                have r0v := (bq.cell (blk_lt (((unhide B2).cell (blk_lt (unhide R0))).trans (unhide R0)))).trans (((unhide B2).cell (blk_lt (unhide R0))).trans (unhide R0))
                have CF := unhide CFE _ hbv ((q : Int) + 1)
                have HBV := hide hbv
                clear hbv bq
                by_cases hlast : q + 1 = L
                · rw [if_neg (by omega), if_neg (by omega)] at CF
                  have CF' := hide CF
                  have pe : ((q : Int) + 1 == (L : Int)) = true := by simp; omega
                  clear CF
                  go_wp2_with fail
                  refine (unhide CF').mono ?_
                  rintro e v3 ⟨rfl, z3⟩
                  have B3 := hide (below_far (unhide HBV) z3)
                  clear z3 CF' r0v
                  go_wp2
                  go_roundw
                  case rel => exact ⟨q + 1, by go_num, by omega, unhide B3⟩
                  case measure => simp [intOf]; omega
                · rw [if_pos (by omega)] at CF
                  have CF' := hide CF
                  have pe : ((q : Int) + 1 == (L : Int)) = false := by simp; omega
                  clear CF
                  go_wp2_with fail
                  refine (unhide CF').mono ?_
                  rintro e v3 ⟨rfl, z3⟩
                  have B3 := hide (below_far (unhide HBV) z3)
                  clear z3 CF' r0v
                  go_wp2
                  go_roundw
                  case rel => exact ⟨q + 1, by go_num, by omega, unhide B3⟩
                  case measure => simp [intOf]; omega
            · obtain rfl : q = L := by omega
              have C3 := unhide CFE _ hb2 ((q : Int) + 1)
              rw [if_neg (by omega), if_pos (by omega)] at C3
              have C3' := hide C3
              have hw1 : IntKind.i64.wrap ((q : Int) + 1) = (q : Int) + 1 := wrapped _ (by omega) (by omega)
              clear hb2 C3
              go_wp2_with fail
              refine (unhide C3').mono ?_
              rintro e v3 ⟨rfl, z3⟩
              have B3 := hide (below_far (unhide B2) z3)
              have C4 := unhide CFE _ (unhide B3) 0
              rw [if_pos (by omega)] at C4
              have C4' := hide C4
              clear z3 C4 C3'
              go_wp2_with fail
              refine (unhide C4').mono ?_
              rintro e v4 ⟨rfl, z4⟩
              have B4 := hide (below_far (unhide B3) z4)
              have C5 := unhide CAT _ (unhide B4) 0
              rw [at_zero (unhide CH)] at C5
              simp only [zeroGn] at C5
              have C5' := hide C5
              clear z4 C5 C4'
              go_wp2_with fail
              refine (unhide C5').mono ?_
              rintro e v5 ⟨mo, mc, rfl, -, z5⟩
              have B5 := hide (below_far (unhide BL) (below_far (unhide B4) z5))
              clear z5 C5'
              go_wp2
              go_ret
              exact ⟨rfl, unhide B5⟩
end Go.Proofs.Ytgllokinadjiaaa
