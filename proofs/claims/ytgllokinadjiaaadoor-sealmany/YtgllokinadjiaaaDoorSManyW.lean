/- SealMany: the walk. What the listed variable errors.errorType gives a walk, and a start that holds it. SealMany: for every number of seals and all members the law answers true, and both read as they did; the one listed variable, errors.errorType, holds what package errors lays there (the card ties it to the program's text). -/
import Derived.Test.YtgllokinadjiaaaDoorSFit
import Derived.Test.YtgllokinadjiaaaDoorSKnown
import Derived.Lib.MinMax
import Derived.Test.YtgllokinadjiaaaDoorRows
import Derived.Test.YtgllokinadjiaaaDoorWwFrameAt
import Derived.ChangeVars
import Derived.JoinedOf
import Derived.LaidLaws
import Derived.LaidHandle
import Derived.Test.YtgllokinadjiaaaDoorCards
import Derived.Test.YtgllokinadjiaaaDoorTie
import Derived.ProofKit
import Derived.OpenShut
import Derived.Deep.DeepHandedRow
namespace Go.Proofs.YtgllokinadjiaaaDoor
open Go.RowKit Go.Maps
open Ww (Own)
attribute [local go_sem ↓] Go.wp_at_zero Go.wp_at_succ

/-- generations, at a block, of memory that is not older than a world: j were asked for, of which 60 at most stand. -/
structure Mn (w0 w : World) (p : Nat) (gs : List Gn) (j : Nat) : Prop where
  mem : ∃ D, Gs D w p gs ∧ ∀ k, D k → w0.heap.size ≤ k
  len : gs.length = min j 60
  pos : 1 ≤ j
  fit : FitG gs
  ok : ∀ g ∈ gs, g.ok
  last : ∃ l, gs[gs.length - 1]? = some l ∧ l.n = (gs.length : Int) ∧ l.base = (gs.length : Int) - 1
theorem Mn.ne {w0 w : World} {p : Nat} {gs : List Gn} {j : Nat} (h : Mn w0 w p gs j) : gs ≠ [] := fun e => by
  have h1 := h.len; have h2 := h.pos
  rw [e] at h1; simp at h1; omega
theorem Mn.below {w0 w w' : World} {p : Nat} {gs : List Gn} {j : Nat} (h : Mn w0 w p gs j) (hb : Below w.heap.size w w') : Mn w0 w' p gs j := by
  obtain ⟨⟨D, h1, h2⟩, r1, r2, r3, r4, r5⟩ := h
  exact ⟨⟨D, h1.below hb, h2⟩, r1, r2, r3, r4, r5⟩
theorem pl_in64 {ms : List Int} (h : Pl ms) : ∀ y ∈ ms, in64 y := fun y hy => by have := h.1.2 y hy; unfold in64; omega
theorem wrap_in64 (x : Int) : in64 (IntKind.i64.wrap x) := by
  unfold in64
  rw [IntKind.wrap_i64]
  omega
/-- the first one. -/
theorem Mn.one {w0 w : World} {p : Nat} {D : Nat → Prop} {ms : List Int} (hg : Gs D w p [⟨1, 1, 0, ms⟩]) (hD : ∀ k, D k → w0.heap.size ≤ k) (hp : Pl ms) : Mn w0 w p [⟨1, 1, 0, ms⟩] 1 := by
  refine ⟨⟨D, hg, hD⟩, rfl, Nat.le_refl _, ?_, fun g h => ?_, ⟨_, rfl, rfl, rfl⟩⟩
  · have := FitG.nil.snoc (g := ⟨1, 1, 0, ms⟩) (wrong_pl hp (Or.inl rfl) (show (0 : Int) ≤ 0 by decide) (show (1 : Int) ≤ 1 by decide))
    exact this
  · simp at h; subst h
    exact ⟨(show in64 1 by unfold in64; decide), (show in64 1 by unfold in64; decide), (show in64 0 by unfold in64; decide), pl_in64 hp, hp.2.1⟩
/-- one more, where there is room. -/
theorem Mn.more {w0 w w' : World} {p : Nat} {gs : List Gn} {j : Nat} (h : Mn w0 w p gs j) (hj : j < 60) {l : Gn} (hl : gs[gs.length - 1]? = some l) {e : Int} (he : e = 1 ∨ e = 2) {ns : List Int} (hn : Pl ns) {D : Nat → Prop} (hg : Gs D w' p (gs ++ [⟨IntKind.i64.wrap (l.n + 1), e, (j : Int), ns⟩])) (hD : ∀ k, D k → w0.heap.size ≤ k)
    (hno : sealNo gs l (j : Int) e [] ns = 0) : Mn w0 w' p (gs ++ [⟨IntKind.i64.wrap (l.n + 1), e, (j : Int), ns⟩]) (j + 1) := by
  have hlen := h.len
  obtain ⟨l', h1, h2, h3⟩ := h.last
  rw [hl] at h1; cases h1
  have hw : IntKind.i64.wrap (l.n + 1) = l.n + 1 := IntWalk.i64_in _ (by omega)
  have hlj : gs.length = j := by omega
  refine ⟨⟨D, hg, hD⟩, by simp; omega, by omega, h.fit.snoc hno, fun g hgm => ?_, ⟨_, by simp; rfl, ?_, ?_⟩⟩
  · rw [List.mem_append] at hgm
    rcases hgm with hgm | hgm
    · exact h.ok g hgm
    · simp at hgm; subst hgm
      exact ⟨wrap_in64 _, (show in64 e by unfold in64; omega), (show in64 (j : Int) by unfold in64; omega), pl_in64 hn, hn.2.1⟩
  · show IntKind.i64.wrap (l.n + 1) = _
    rw [hw]; simp; omega
  · show (j : Int) = _
    simp; omega
/-- one more, where there is none. -/
theorem Mn.full {w0 w : World} {p : Nat} {gs : List Gn} {j : Nat} (h : Mn w0 w p gs j) (hj : ¬ j < 60) : Mn w0 w p gs (j + 1) :=
  ⟨h.mem, by have := h.len; omega, by omega, h.fit, h.ok, h.last⟩
theorem seal_many {ms : List Int} (h : Pl ms) {gs : List Gn} {l : Gn} (hl : gs[gs.length - 1]? = some l) (h60 : 60 ≤ gs.length) {e b : Int} (he : e = 1 ∨ e = 2) (hb : l.base < b) : sealNo gs l b e [] ms = 4 := by
  unfold sealNo wrongG wrongB followsOf
  simp [hl, h.check, he, hb, h60]
/-- within, its answer by a letter. -/
theorem within_nat' (n : Int) : ∃ k : Nat, k < 70 ∧ ∀ w, Calls Tryd.prog 5 #[.int .i64 n, .int .i64 70] w fun ev w' => ev = .returned (.int .i64 (k : Int)) ∧ w' = w := by
  have hb := Int.emod_nonneg n (show (70 : Int) ≠ 0 by omega)
  have hl := Int.emod_lt_of_pos n (show (0 : Int) < 70 by omega)
  refine ⟨(n % 70).toNat, by omega, fun w => ?_⟩
  rw [show (((n % 70).toNat : Nat) : Int) = n % 70 by omega]
  exact within_any n 70 w (by omega) (by omega)
theorem wrapped (a : Int) (h1 : -1000000 ≤ a) (h2 : a ≤ 1000000) : IntKind.i64.wrap a = a := IntWalk.i64_in _ (by omega)
set_option maxRecDepth 20000 in
set_option maxHeartbeats 8000000 in
theorem many_walk (n0 bits : Int) (w : World) (hS : Ww.Start w) : Calls Tryd.prog 3 #[.int .i64 n0, .int .i64 bits] w fun e w' => e = .returned (.bool true) ∧ Below w.heap.size w w' := by
  have C0 := hide (known_any w)
  obtain ⟨n, hn70, CW⟩ := within_nat' n0
  obtain ⟨ms, hp, -, CP⟩ := plain_pl bits
  have CP' := hide CP
  have CW' := hide CW
  have HP := hide hp
  have HS := hide hS
  clear hp CP CW hS
  go_enter Tryd.func3, Tryd.ntmps3
  go_wp2_with fail
  refine (unhide C0).mono ?_
  rintro e w1 ⟨rfl, z1⟩
  have B1 := hide z1
  have C1 := hide (unhide CP' w1)
  clear z1 C0
  go_wp2_with fail
  refine (unhide CW' _).mono ?_
  rintro e w1' ⟨rfl, rfl⟩
  go_wp2_with fail
  refine (unhide C1).mono ?_
  rintro e w2 ⟨an, m, cn, rfl, hm, -, hfr, z2⟩
  have hm7 : m ≤ 7 := by rw [← hm]; exact (unhide HP).2.1
  have C2 := hide (new_ok w2 ⟨1, 1, 0, ms⟩ none an 0 0 m cn [] rfl hm (by decide) (by omega) (IntsR.nil _ _) hfr.1 (wrong_pl (unhide HP) (Or.inl rfl) (show (0 : Int) ≤ 0 by decide) (show (1 : Int) ≤ 1 by decide)))
  have B2 := hide (below_far (unhide B1) z2)
  clear z2 hm hfr hm7 C1
  go_wp2_with fail
  refine (unhide C2).mono ?_
  rintro e w3 ⟨p, D, rfl, g3, hD, z3⟩
  have B3 := hide (below_far (unhide B2) z3)
  have A3 : Hid (Mn w w3 p [⟨1, 1, 0, ms⟩] 1) := hide (Mn.one g3 (fun k hk => Nat.le_trans (unhide B2).size (hD k hk)) (unhide HP))
  clear g3 hD z3 C2
  go_wp2
  go_loopw [7, 8, 4] (fun i _ _ wr => ∃ (j : Nat) (gs : List Gn), i = .int .i64 j ∧ j ≤ n + 1 ∧ Mn w wr p gs j ∧ Below w.heap.size w wr) (fun i _ _ _ => n + 1 - (intOf i).toNat)
  case atStart => exact ⟨1, _, rfl, by omega, unhide A3, unhide B3⟩
  case round =>
    obtain ⟨j, gs, rfl, hj, hat, hb⟩ := hrel
    have AT := hide hat
    have HB := hide hb
    clear hat hb
    by_cases h1 : j ≤ n
    · have q1 : (j : Int) ≤ (n : Int) := by omega
      have q0 : (0 : Int) ≤ (j : Int) := by omega
      obtain ⟨s, hs⟩ : ∃ s, IntKind.i64.wrap (bits + (j : Int)) = s := ⟨_, rfl⟩
      obtain ⟨ns, hns, -, CPS⟩ := plain_pl s
      obtain ⟨r, hr⟩ : ∃ r, (j : Int).tmod 2 = r := ⟨_, rfl⟩
      have hr2 : r = 0 ∨ r = 1 := by rw [← hr, Int.tmod_eq_emod_of_nonneg q0]; omega
      obtain ⟨e1, he1⟩ : ∃ x, IntKind.i64.wrap (1 + r) = x := ⟨_, rfl⟩
      have he1' : e1 = 1 ∨ e1 = 2 := by rw [← he1, wrapped _ (by omega) (by omega)]; omega
      have CPL := hide (CPS wr)
      have HNS := hide hns
      have HE := hide he1'
      clear CPS hns hr2 he1'
      go_wp2_with fail
      refine (unhide CPL).mono ?_
      rintro e w4 ⟨bp, kp, cp, rfl, hk, -, hfr, bz⟩
      obtain ⟨D, hg, hD⟩ := (unhide AT).mem
      obtain ⟨l, hl, hln, hlb⟩ := (unhide AT).last
      have hlen := (unhide AT).len
      have hkp : kp ≤ 1000000 := by rw [← hk]; exact Nat.le_trans (unhide HNS).2.1 (by decide)
      have B4 := hide (below_far (unhide HB) bz)
      by_cases h60 : j < 60
      · have hno := seal_pl (unhide HNS) hl (by omega) (unhide HE) (show l.base < (j : Int) by omega)
        have CS := hide (seal_ok (hg.below bz) (by omega) hl (j : Int) e1 none bp 0 0 kp cp [] ns rfl hk (by decide) hkp (IntsR.nil _ _) hfr.1 hno)
        have q3 : (j : Int) < 60 := by omega
        have FIN : Hid (∀ Z, Gs (News D w4 Z) Z p (gs ++ [⟨IntKind.i64.wrap (l.n + 1), e1, (j : Int), ns⟩]) → Kp D w4 Z → Mn w Z p (gs ++ [⟨IntKind.i64.wrap (l.n + 1), e1, (j : Int), ns⟩]) (j + 1) ∧ Below w.heap.size w Z) := hide (fun Z hgz hkz => by
          refine ⟨(unhide AT).more h60 hl (unhide HE) (unhide HNS) hgz (fun k hk' => ?_) hno, (unhide B4).trans (hkz.below (base := w.heap.size) hD (unhide B4).size)⟩
          rcases hk' with hk' | hk'
          · exact hD k hk'
          · exact Nat.le_trans (unhide B4).size hk'.1)
        clear hg hD hl hln hlb hlen hno hk hfr bz
        go_wp2_with fail
        refine (unhide CS).mono ?_
        rintro e w5 ⟨rfl, gz, kz⟩
        have FZ := hide (unhide FIN _ gz kz)
        clear gz kz CS FIN
        go_wp2
        go_roundw
        case rel => exact ⟨j + 1, _, by go_num, by omega, (unhide FZ).1, (unhide FZ).2⟩
        case measure => simp [intOf]; omega
      · have hno := seal_many (unhide HNS) hl (by omega) (unhide HE) (show l.base < (j : Int) by omega)
        have CS := seal_no (hg.below bz) (by omega) hl (j : Int) e1 none bp 0 0 kp cp [] ns rfl hk (by decide) (by omega) (IntsR.nil _ _) hfr.1 (by rw [hno]; decide)
        rw [hno] at CS
        have CS' := hide CS
        have q3 : ¬ (j : Int) < 60 := by omega
        have AF := hide (((unhide AT).full h60).below bz)
        clear hg hD hl hln hlb hlen hno hk hfr bz CS
        go_wp2_with fail
        refine (unhide CS').mono ?_
        rintro e w5 ⟨rfl, z5⟩
        have AZ := hide ((unhide AF).below z5)
        have B5 := hide (below_far (unhide B4) z5)
        clear z5 AF CS'
        go_wp2
        go_roundw
        case rel => exact ⟨j + 1, _, by go_num, by omega, unhide AZ, unhide B5⟩
        case measure => simp [intOf]; omega
    · obtain rfl : j = n + 1 := by omega
      have q1 : ¬ ((n + 1 : Nat) : Int) ≤ (n : Int) := by omega
      obtain ⟨D, hg, hD⟩ := (unhide AT).mem
      obtain ⟨L, hL⟩ : ∃ L, gs.length = L := ⟨_, rfl⟩
      have hlen := (unhide AT).len
      have hL1 : 1 ≤ L := by omega
      have hL60 : L ≤ 60 := by omega
      have hLm : min ((n : Int) + 1) 60 = (L : Int) := by omega
      have CA := hide (all_any hg hL (by omega))
      have HL := hide hL
      have HLM := hide hLm
      have HG := hide hg
      have HD := hide hD
      clear hg hD hL hlen hLm
      go_wp2_with fail
      refine (unhide CA).mono ?_
      rintro e wl ⟨bl, rfl, rl, zl⟩
      have BL := hide (below_far (unhide HB) zl)
      have RL := hide rl
      have GL := hide ((unhide HG).below zl)
      clear rl zl CA
      have CV := hide (save_any (unhide GL) (unhide HL) (by omega) (fun g hgm => ((unhide AT).ok g hgm).few) ((unhide HS).below (unhide BL)))
      go_wp2_with fail
      refine (unhide CV).mono ?_
      rintro e wv ⟨v, rfl, ov, zv⟩
      obtain ⟨vo, vc, rfl, -⟩ := ov.slice
      obtain ⟨N, hN⟩ : ∃ N, (saveBytes gs).length = N := ⟨_, rfl⟩
      rw [hN]
      have BV := hide (below_far (unhide BL) zv)
      have CL := hide (load_saved (unhide AT).ok (unhide AT).ne (by rw [unhide HL]; exact hL60) (unhide AT).fit wv wl.heap.size vo N vc (by rw [← hN]; exact ov) hN ((unhide HS).below (unhide BV)))
      have ZV := hide zv
      clear ov zv CV hN
      go_wp2_with fail
      refine (unhide CL).mono ?_
      rintro e wx ⟨x, E, rfl, gx, hE, zx⟩
      have BX := hide (below_far (unhide BV) zx)
      have CA2 := hide (fun Y (hY : Below wx.heap.size wx Y) => all_any (gx.below hY) (unhide HL) (by omega))
      have GX := hide gx
      have ZX := hide (below_far (unhide ZV) zx)
      clear gx hE zx CL
      have hmin := unhide HLM
      have C2 := hide (unhide CA2 _ (Below.refl _ _))
      go_wp2_with fail
      refine (unhide C2).mono ?_
      rintro e wy ⟨b2, rfl, -, zy⟩
      have C3 := hide (unhide CA2 _ zy)
      have ZY := hide zy
      clear zy C2
      go_wp2_with fail
      refine (unhide C3).mono ?_
      rintro e wz ⟨by2, rfl, ry, zz⟩
      have BZ := hide (below_far (unhide BX) (below_far (unhide ZY) zz))
      have RY := hide ry
      have RZ := hide ((unhide RL).below (below_far (unhide ZX) (below_far (unhide ZY) zz)))
      have GZ := hide ((unhide GL).below (below_far (unhide ZX) (below_far (unhide ZY) zz)))
      have GXZ := hide ((unhide GX).below (below_far (unhide ZY) zz))
      clear ry zz C3 hmin
      go_wp2
      go_loopw [13, 4] (fun i _ wr => ∃ q : Nat, i = .int .i64 q ∧ q ≤ L ∧ Below wz.heap.size wz wr) (fun i _ _ => L - (intOf i).toNat)
      case atStart => exact ⟨0, rfl, Nat.zero_le _, Below.refl _ _⟩
      case round =>
        obtain ⟨q, rfl, hqL, hb⟩ := hrel
        by_cases hlt : q < L
        · obtain ⟨g, hg⟩ : ∃ g, gs[q]? = some g := ⟨_, List.getElem?_eq_getElem (by rw [unhide HL]; exact hlt)⟩
          obtain ⟨bl', ro, rc, e1, -, r0, r1, r2, r3, r4, ro', -, rl4⟩ := (unhide RZ).at hg
          cases e1
          obtain ⟨by', so, sc, e1, -, s0, s1, s2, s3, s4, so', -, sl4⟩ := (unhide RY).at hg
          cases e1
          obtain ⟨y, hy⟩ : ∃ y, g.ms.length = y := ⟨_, rfl⟩
          rw [hy] at r4 ro' rl4 s4 so'
          have q1 : (q : Int) < (L : Int) := by omega
          have q0 : (0 : Int) ≤ (q : Int) := by omega
          have t0 : ∀ s : Bel wr, s.w.cell? ⟨bl, q * 5, none⟩ = some (.int .i64 g.n) := fun s => s.cell ((hb.cell (blk_lt r0)).trans r0)
          have t1 : ∀ s : Bel wr, s.w.cell? ⟨bl, q * 5 + 1, none⟩ = some (.int .i64 g.eng) := fun s => s.cell ((hb.cell (blk_lt r1)).trans r1)
          have t2 : ∀ s : Bel wr, s.w.cell? ⟨bl, q * 5 + 2, none⟩ = some (.int .i64 g.base) := fun s => s.cell ((hb.cell (blk_lt r2)).trans r2)
          have t3 : ∀ s : Bel wr, s.w.cell? ⟨bl, q * 5 + 3, none⟩ = some (.slice none 0 0) := fun s => s.cell ((hb.cell (blk_lt r3)).trans r3)
          have t4 : ∀ s : Bel wr, s.w.cell? ⟨bl, q * 5 + 4, none⟩ = some (.slice ro y rc) := fun s => s.cell ((hb.cell (blk_lt r4)).trans r4)
          have t4' : ∀ s : Bel wr, s.w.cell? ⟨bl, q * 5 + 3 + 1, none⟩ = some (.slice ro y rc) := t4
          have u0 : ∀ s : Bel wr, s.w.cell? ⟨by2, q * 5, none⟩ = some (.int .i64 g.n) := fun s => s.cell ((hb.cell (blk_lt s0)).trans s0)
          have u1 : ∀ s : Bel wr, s.w.cell? ⟨by2, q * 5 + 1, none⟩ = some (.int .i64 g.eng) := fun s => s.cell ((hb.cell (blk_lt s1)).trans s1)
          have u2 : ∀ s : Bel wr, s.w.cell? ⟨by2, q * 5 + 2, none⟩ = some (.int .i64 g.base) := fun s => s.cell ((hb.cell (blk_lt s2)).trans s2)
          have u3 : ∀ s : Bel wr, s.w.cell? ⟨by2, q * 5 + 3, none⟩ = some (.slice none 0 0) := fun s => s.cell ((hb.cell (blk_lt s3)).trans s3)
          have u4 : ∀ s : Bel wr, s.w.cell? ⟨by2, q * 5 + 4, none⟩ = some (.slice so y sc) := fun s => s.cell ((hb.cell (blk_lt s4)).trans s4)
          have u4' : ∀ s : Bel wr, s.w.cell? ⟨by2, q * 5 + 3 + 1, none⟩ = some (.slice so y sc) := u4
          have CSB := hide (fun s : Bel wr => s.call (rsame_self so ro y rc sc g.ms hy rl4 s.w ((so'.inF.below hb).below s.b).ints ((ro'.inF.below hb).below s.b).ints))
          have HB2 := hide hb
          clear hb r0 r1 r2 r3 r4 ro' rl4 s0 s1 s2 s3 s4 so' sl4 hy hg
          go_upto_region 21 with fail
          have nebel := Bel.ne wr
          refine quiet_bel (by kernel_rfl) (by kernel_rfl) ?_
          repeat (go_big_quiet_step (first | exact unhide CSB _ | fail))
          refine wpQuiet_nil ?_
          intro wq hwq
          have bq := Bel.of hwq
          clear hwq nebel
          go_wp2
          go_roundw
          case rel => exact ⟨q + 1, by go_num, by omega, below_far (unhide HB2) bq⟩
          case measure => simp [intOf]; omega
        · have q1 : ¬ (q : Int) < (L : Int) := by omega
          obtain ⟨l, hl, -, -⟩ := (unhide AT).last
          have CN1 := hide (fun Y (hY : Below wz.heap.size wz Y) => now_any ((unhide GXZ).below hY) (by rw [unhide HL]; omega) hl)
          have CN2 := hide (fun Y (hY : Below wz.heap.size wz Y) => now_any ((unhide GZ).below hY) (by rw [unhide HL]; omega) hl)
          have HB2 := hide hb
          have FN := field_n
          obtain ⟨ln, le, lb, lms⟩ := l
          unfold gnV at CN1 CN2
          simp only at CN1 CN2
          clear hb hl
          go_wp2_with fail
          refine (unhide CN1 _ (unhide HB2)).mono ?_
          rintro e v1 ⟨c1, rfl, -, z1⟩
          have B1 := hide (below_far (unhide HB2) z1)
          clear z1
          go_wp2_with fail
          refine (unhide CN2 _ (unhide B1)).mono ?_
          rintro e v2 ⟨c2, rfl, -, z2⟩
          have BE := hide (below_far (unhide BZ) (below_far (unhide B1) z2))
          clear z2
          go_wp2
          go_ret
          exact ⟨by simp, unhide BE⟩
end Go.Proofs.YtgllokinadjiaaaDoor
namespace Go.Proofs.YtgllokinadjiaaaDoor
open Go.RowKit

theorem own : ownKnob Tryd.prog.godebug = none := by kernel_rfl
theorem Tryd.et : Tryd.prog.globalNamed "errors.errorType" = some 0 := by kernel_rfl
theorem Tryd.rt : (Tryd.prog.cutTypes.find? (·.1 == "internal/reflectlite.rtype")).map (·.2) = some 95 := by kernel_rfl
theorem Tryd.oneRow : ((List.range 178).filter fun t => Tryd.prog.rowNamed t [101, 114, 114, 111, 114]) = [46] := by kernel_rfl
theorem Tryd.size : Tryd.prog.types.size = 178 := by kernel_rfl

theorem start_of_laid {W : World} (h : laidMetH Tryd.prog [("errors.errorType", Rows.laid_errors_errorType)] W) : Ww.Start W := by
  have h' : laidMet Tryd.prog [] W ∧ handlesMet Tryd.prog [("errors.errorType", Rows.laid_errors_errorType)] W := h
  have g : Ww.Glob W := by
    obtain ⟨name, u, ty, e1, e2, e3, e4, e5⟩ := h'.2 _ (List.mem_singleton.2 rfl)
    have en : name = [101, 114, 114, 111, 114] := (Option.some.inj e1).symm
    subst en
    obtain rfl := Option.some.inj (Tryd.rt.symm.trans e2)
    have hm : ty ∈ (List.range 178).filter fun t => Tryd.prog.rowNamed t [101, 114, 114, 111, 114] := List.mem_filter.2 ⟨List.mem_range.2 (by rw [← Tryd.size]; exact e3), e4⟩
    rw [Tryd.oneRow] at hm
    obtain rfl := List.mem_singleton.1 hm
    have hh : typeHandle Tryd.prog 46 = .pointer (some ⟨1, 46, none⟩) := by kernel_rfl
    rw [hh] at e5
    have hc := World.var?_cell Tryd.et e5 0
    simp at hc
    exact hc
  exact ⟨trivial, g, by have h2 := Ww.blk_lt g; simp at h2; omega⟩

/-- the first block laid as package errors lays it. -/
def layFirst (w : World) : World :=
  { w with heap := w.heap.modify 0 fun
      | .cells _ t frozen => .cells #[.iface 95 (.agg #[.pointer (some ⟨1, 46, none⟩)])] t frozen
      | o => o }
end Go.Proofs.YtgllokinadjiaaaDoor
namespace Go.Proofs.YtgllokinadjiaaaDoor
namespace SealMany
open Go.ChangeShapes Go.WideShapes Go.ChangeAt Go.RowKit
open Go.ChangeMaps (open_string shut_string)

set_option maxRecDepth 100000 in
theorem contract (H : Type) (enc : TypeId × Value → H) (W : World) (base : Nat) (args : Array Value) (ds gs : List (DataW H)) (before : List MemPlace)
    (hval : ∀ (j : Nat) t v, Tryd.f3.params[j]? = some t → args[j]? = some v → Value.okWide Tryd.prog W .any base t v)
    (hW : DataW.Whole enc Tryd.prog Tryd.f3.params.toList Rows.sealManySpec.vars false W args.toList ds gs before) (hL : laidMetH Tryd.prog Rows.sealManyRow.laid W) :
    Calls Tryd.prog 3 args W fun e W' => ∃ v, e = .returned v ∧ Rows.sealManySpec.post enc Tryd.prog Tryd.f3 false true false false W args v W' := by
  have hW' := hW
  obtain ⟨p, q, hA0, hV, rfl, hfz, hnd⟩ := hW
  have hA : DataW.TrodAll enc Tryd.prog W 0 (fun _ => true) true Tryd.f3.params.toList args.toList ds p := hA0
  rw [Tryd.params3] at hA hval
  obtain ⟨v0, vs0, d0, ds0, p0, q0, hargs, rfl, rfl, h0, r0⟩ := trodAll_cons hA
  obtain ⟨v1, vs1, d1, ds1, p1, q1, rfl, rfl, rfl, h1, r1⟩ := trodAll_cons r0
  obtain ⟨rfl, rfl, rfl⟩ := trodAll_nil r1
  obtain rfl : args = #[v0, v1] := by cases args; simp_all
  obtain ⟨rfl, rfl⟩ := trodVars_none hV
  obtain ⟨x0, rfl, rfl, rfl, w0⟩ := open_int Tryd.underlying3 (hval 0 3 v0 rfl rfl) h0
  obtain ⟨x1, rfl, rfl, rfl, w1⟩ := open_int Tryd.underlying3 (hval 1 3 v1 rfl rfl) h1
  clear hA0
  simp only [List.append_nil] at hW'
  refine (many_walk x0 x1 W (start_of_laid hL)).mono fun e W' ⟨he, hb⟩ => ?_
  subst he
  refine ⟨_, rfl, _, _, _, [], [], [], hW', ?_, ?_, ?_, hb.frame _, fun h => by cases h⟩
  · exact trodAll_cons_mk (shut_bool Tryd.underlying4 _) trodAll_mk0
  · exact trodAll_cons_mk (shut_int Tryd.underlying3 w0) (trodAll_cons_mk (shut_int Tryd.underlying3 w1) trodAll_mk0)
  · rfl

theorem laid_met (os : Os) : laidMetH Tryd.prog Rows.sealManyRow.laid ((layFirst (World.holding Tryd.prog os ⟨#[], #[], []⟩)).forCall (fun _ _ => 0) ⟨#[], #[.int .i64 0, .int .i64 0], []⟩).memory :=
  laidMetH_of_parts (laidMet_nil _ _) (by kernel_rfl)
theorem reads (os : Os) {H : Type} (enc : TypeId × Value → H) : ∃ places, DataW.whole enc Tryd.prog ((layFirst (World.holding Tryd.prog os ⟨#[], #[], []⟩)).forCall (fun _ _ => 0) ⟨#[], #[.int .i64 0, .int .i64 0], []⟩).memory Tryd.f3.params.toList Rows.sealManySpec.vars false (#[.int .i64 0, .int .i64 0] : Array Value).toList 8 = some ([.lit (.int .i64 0), .lit (.int .i64 0)], [], places) :=
  ⟨[], by kernel_rfl⟩

set_option maxRecDepth 100000 in
theorem lifted (os : Os) (started : os.Started) (H : Type) (enc : TypeId × Value → H) (F : Stop.Interp) :
    ReturnsInHanded {} Tryd.checked os 3 .any ((OpenSpec.ofChange Rows.sealManySpec).preRow enc Tryd.prog Tryd.f3 Rows.sealManyRow.domain false Rows.sealManyRow.laid) (((OpenSpec.ofChange Rows.sealManySpec).at F).post enc Tryd.prog Tryd.f3 false true false false) := by
  obtain ⟨places, hx⟩ := reads os enc
  refine returnsInHanded_of_row (C := Tryd.checked) (s := OpenSpec.ofChange Rows.sealManySpec) own started (by kernel_rfl) Tryd.func3
    (witness_row_at (enc := enc) (C := Tryd.checked) false (layFirst (World.holding Tryd.prog os ⟨#[], #[], []⟩)) #[.int .i64 0, .int .i64 0] rfl (by kernel_rfl) (by kernel_rfl) (by kernel_rfl)
      (OpenSpec.preRow_of_cond 8 hx (by kernel_rfl) (fun k hk => by cases hk) (by kernel_rfl) (laid_met os))) ?_
  intro W base args ds gs before hval hW _ _ _ hL _ _
  exact contract H enc W base args ds gs before hval hW hL

theorem said : Rows.SealManySaid :=
  OpenClaim.holds_of_cond 3 Tryd.f3 rfl rfl rfl rfl rfl rfl rfl ⟨rfl, rfl, rfl, rfl, rfl⟩ rfl rfl rfl rfl rfl (by kernel_rfl) Tryd.func3 (by kernel_rfl)
    (of_decide_eq_true (by kernel_rfl)) (by unfold Func.isWrapper; rw [if_neg (of_decide_eq_false (by kernel_rfl))]; exact ⟨rfl, rfl⟩)
    (fun os started H enc _ F => by rw [OpenClaim.pre_eq_preRow]; exact lifted os started H enc F)

theorem plain (f : FuncId) (fn : Func) (hf : Tryd.pinned.checked.prog.funcNamed Tryd.f3.name = some f) (hfn : Tryd.pinned.checked.prog.funcs[f]? = some fn) :
    true = Tryd.pinned.checked.prog.looks [] ∧ ∀ (j : Nat) t, fn.params[j]? = some t → Tryd.pinned.checked.prog.wantsStandIn t = false := by
  obtain rfl : f = 3 := Option.some.inj ((show Tryd.prog.funcNamed Tryd.f3.name = some 3 by kernel_rfl).symm.trans hf) |>.symm
  obtain rfl : fn = Tryd.f3 := (Option.some.inj (Tryd.func3.symm.trans hfn)).symm
  refine ⟨by kernel_rfl, fun j t ht => ?_⟩
  rw [Tryd.params3] at ht
  have hall : ∀ t ∈ #[3, 3], Tryd.prog.wantsStandIn t = false := by
    intro t ht
    simp only [List.mem_toArray, List.mem_cons, List.not_mem_nil, or_false] at ht
    rcases ht with rfl | rfl <;> kernel_rfl
  exact hall t (Array.mem_of_getElem? ht)

theorem card : Rows.SealManyCardSaid :=
  Claim7.holds_tied_plain_at .later [] _ _ _ _ said (fun _ h => by cases h) (by kernel_rfl) (fun _ h => by cases h) sealMany_row_tie rfl ⟨rfl, rfl⟩ (by kernel_rfl) rfl plain (by kernel_rfl)
end SealMany
theorem sealMany_card : Rows.SealManyCardSaid := SealMany.card
end Go.Proofs.YtgllokinadjiaaaDoor
