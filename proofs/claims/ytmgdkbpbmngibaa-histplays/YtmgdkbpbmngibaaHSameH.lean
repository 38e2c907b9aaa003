/- synodallaw10.same: a contract, where both logs are the same. -/
import Derived.Test.YtmgdkbpbmngibaaHXRef2
import Derived.Test.YtmgdkbpbmngibaaHFrom2
import Derived.Test.YtmgdkbpbmngibaaHSame
namespace Go.Proofs.Ytmgdkbpbmngibaa
open Go.RowKit Go.Maps

set_option maxRecDepth 20000 in
set_option maxHeartbeats 4000000 in
theorem same_any {base : Nat} {D E : Nat → Prop} {w : World} {p q : Nat} {b : Int} {rs : List Rw} (hX : Hs D w p b rs) (hY : Xs base E w q b rs) (hf : Fit b rs) (hbase : base ≤ w.heap.size) :
    Calls Try.prog 23 #[.pointer (some ⟨p, 0, none⟩), .pointer (some ⟨q, 0, none⟩)] w fun e w' => e = .returned (.bool true) ∧ Below w.heap.size w w' := by
  have hb0 := hf.b0
  have hb1 := hf.b1
  have hn1 := hf.n1
  have LX := hide (last_any hX hf)
  have LY := hide (fun Z (h : Below w.heap.size w Z) => xlast_any (hY.below h) hf)
  have FR := hide (fun Z (h : Below w.heap.size w Z) => from_any (hX.below h) hf 0)
  rw [show aheadOf b rs 0 = 0 by unfold aheadOf; rw [if_pos hb0]] at FR
  simp only [List.drop_zero] at FR
  have TX := hide (fun (i : Int) Z (h : Below w.heap.size w Z) => term_any (hX.below h) hf i)
  have TY := hide (fun (i : Int) Z (h : Below w.heap.size w Z) => xterm_any (hY.below h) hf i)
  have EX := hide (fun (i : Int) Z (h : Below w.heap.size w Z) => entry_any (hX.below h) hf i)
  have EY := hide (fun (i : Int) Z (h : Below w.heap.size w Z) => xentry_any (hY.below h) hf i (Nat.le_trans hbase h.size))
  have HY := hide hY
  obtain ⟨L, hL⟩ : ∃ L, b + (rs.length : Int) = L := ⟨_, rfl⟩
  rw [hL] at LX LY
  have hLb : b ≤ L ∧ L ≤ 2000000 := by omega
  have hne : (L != L) = false := by simp
  clear hX hY hf
  go_enter Try.func23, Try.ntmps23
  go_wp2_with fail
  refine (unhide LX).mono ?_
  rintro e w1 ⟨rfl, b1⟩
  have Y1 := hide (unhide LY _ b1)
  have B1 := hide b1
  clear b1 LX
  go_wp2_with fail
  refine (unhide Y1).mono ?_
  rintro e w2 ⟨rfl, b2⟩
  have B2 := hide (below_far (unhide B1) b2)
  have F2 := hide (unhide FR _ (unhide B2))
  clear b2 Y1 FR
  go_wp2_with fail
  refine (unhide F2).mono ?_
  rintro e w3 ⟨tv, ev, N, rfl, i3, e3, b3⟩
  obtain ⟨at3, ct3, rfl, -⟩ := i3.slice
  obtain ⟨ae3, ce3, rfl, -⟩ := e3.slice
  have B3 := hide (below_far (unhide B2) b3)
  obtain ⟨⟨xt, xe, x1, x2, x3, -, -⟩, -, -, -⟩ := (unhide HY).below (unhide B3)
  obtain ⟨at4, ct4, rfl, hfr4, -⟩ := x2.slice
  obtain ⟨ae4, ce4, rfl, -⟩ := x3.slice
  have hb3 : base ≤ w3.heap.size := Nat.le_trans hbase (unhide B3).size
  have SI := hide (sints_eq at3 at4 rs.length ct3 ct4 (rs.map (·.1)) (by rw [List.length_map]) (by omega) w3 (Ir.inF i3).ints hfr4.1)
  have E3 := hide (fun Y (h : Below w3.heap.size w3 Y) => rsames_eq (rs.map (·.2)) rs.length (by rw [List.length_map]) hn1 ae3 ae4 ce3 ce4 Y ((e3.below h).esR) ((x3.esR hb3).below h))
  rw [List.length_map, List.length_map] at x1
  have X1 := hide x1
  obtain ⟨k0, k1, k2⟩ := three_cells x1
  obtain ⟨n, hn⟩ : ∃ n, rs.length = n := ⟨_, rfl⟩
  rw [hn] at SI E3 X1 k1 k2 hL
  clear i3 e3 b3 x1 x2 x3 hfr4 F2 hb3
  simp only [List.length_map, hn]
  go_wp2_with fail
  refine (unhide SI).mono ?_
  rintro e w4 ⟨rfl, b4⟩
  have E4 := hide (unhide E3 _ b4)
  have B4 := hide (below_far (unhide B3) b4)
  obtain ⟨m0, m1, m2⟩ := three_cells (Below.stay b4 (unhide X1))
  have C4 := hide b4
  clear b4 SI E3 k0 k1 k2
  go_wp2_with fail
  refine (unhide E4).mono ?_
  rintro e w5 ⟨rfl, b5⟩
  have B5 := hide (below_far (unhide B4) b5)
  obtain ⟨n0, -, -⟩ := three_cells (Below.stay (below_far (unhide C4) b5) (unhide X1))
  clear b5 E4 m0 m1 m2 C4
  have wrb : IntKind.i64.wrap (b - 1) = b - 1 := IntWalk.i64_in _ (by omega)
  have wrL : IntKind.i64.wrap (L + 1) = L + 1 := IntWalk.i64_in _ (by omega)
  go_wp2_with fail
  go_loopw [7, 8, 9, 10, 11] (fun iv _ _ _ _ wr => ∃ i : Int, b - 1 ≤ i ∧ i ≤ L + 2 ∧ iv = .int .i64 i ∧ Below w.heap.size w wr) (fun iv _ _ _ _ _ => (L + 2 - intOf iv).toNat)
  case atStart => exact ⟨b - 1, Int.le_refl _, by omega, rfl, unhide B5⟩
  case round =>
    obtain ⟨i, hi1, hi2, rfl, hb⟩ := hrel
    have B := hide hb
    have L1 := hide (unhide LY _ hb)
    clear hb n0 B5
    go_wp2_with fail
    refine (unhide L1).mono ?_
    rintro e w6 ⟨rfl, b6⟩
    have B6 := hide (below_far (unhide B) b6)
    clear b6 L1
    by_cases hil : i ≤ L + 1
    · have d1 : decide (i ≤ L + 1) = true := decide_eq_true hil
      have wri : IntKind.i64.wrap (i + 1) = i + 1 := IntWalk.i64_in _ (by omega)
      have X1 := hide (unhide EX i _ (unhide B6))
      have Y1 := hide (unhide EY i)
      have S1 := hide (unhide TX i)
      have S2 := hide (unhide TY i)
      obtain ⟨e, he⟩ : ∃ e, entOf b rs i = e := ⟨_, rfl⟩
      obtain ⟨u, hu⟩ : ∃ u, termOf b rs i = u := ⟨_, rfl⟩
      obtain ⟨r, hr⟩ : ∃ r, (rowAt b rs i).isSome = r := ⟨_, rfl⟩
      rw [he, hr] at X1 Y1
      rw [hu] at S1 S2
      obtain ⟨kind, client, seq, text, ms, dest⟩ := e
      simp only at X1 Y1
      have hnr : (r != r) = false := by simp
      have hnu : (u != u) = false := by simp
      have HIL := hide hil
      clear he hu hr hil
      go_wp2_with fail
      refine (unhide X1).mono ?_
      rintro x y1 ⟨mv1, rfl, o1, c1⟩
      obtain ⟨mo1, mc1, rfl, -⟩ := o1.slice
      obtain ⟨V1, hV1⟩ : ∃ V, y1.alloc (.cells #[.int .i64 kind, .int .i64 client, .int .i64 seq, .string text, .slice mo1 ms.length mc1, .int .i64 dest] 60) = V := ⟨_, rfl⟩
      have bV1 : Below y1.heap.size y1 V1 := by rw [← hV1]; exact (Below.refl _ y1).alloc (Nat.le_refl _) _
      have xV1 : V1.heap[y1.heap.size]? = some (.cells #[.int .i64 kind, .int .i64 client, .int .i64 seq, .string text, .slice mo1 ms.length mc1, .int .i64 dest] 60 (0, 0)) := by rw [← hV1]; exact box_at _ _
      have P1 := hide (below_far (below_far (unhide B6) c1) bV1)
      have I1 := hide (Ir.below o1 bV1)
      have HV1 := hide hV1
      have XV1 := hide xV1
      have Y2 := hide (unhide Y1 _ (unhide P1))
      clear o1 c1 bV1 xV1 hV1 X1 Y1
      go_upto_region 10 with fail
      rw [unhide HV1]
      go_wp2_with fail
      refine (unhide Y2).mono ?_
      rintro x y2 ⟨mo2, mc2, rfl, o2, hml, c2⟩
      obtain ⟨V2, hV2⟩ : ∃ V, y2.alloc (.cells #[.int .i64 kind, .int .i64 client, .int .i64 seq, .string text, .slice mo2 ms.length mc2, .int .i64 dest] 60) = V := ⟨_, rfl⟩
      have bV2 : Below y2.heap.size y2 V2 := by rw [← hV2]; exact (Below.refl _ y2).alloc (Nat.le_refl _) _
      have xV2 : V2.heap[y2.heap.size]? = some (.cells #[.int .i64 kind, .int .i64 client, .int .i64 seq, .string text, .slice mo2 ms.length mc2, .int .i64 dest] 60 (0, 0)) := by rw [← hV2]; exact box_at _ _
      have c2V := below_far c2 bV2
      have P2 := hide (below_far (unhide P1) c2V)
      have xv1' := Below.stay c2V (unhide XV1)
      have a0 : V2.cell? ⟨y1.heap.size, 0, none⟩ = some (.int .i64 kind) := (cell_of_block xv1').trans rfl
      have a1 : V2.cell? ⟨y1.heap.size, 1, none⟩ = some (.int .i64 client) := (cell_of_block xv1').trans rfl
      have a2 : V2.cell? ⟨y1.heap.size, 2, none⟩ = some (.int .i64 seq) := (cell_of_block xv1').trans rfl
      have a3 : V2.cell? ⟨y1.heap.size, 3, none⟩ = some (.string text) := (cell_of_block xv1').trans rfl
      have a4 : V2.cell? ⟨y1.heap.size, 4, none⟩ = some (.slice mo1 ms.length mc1) := (cell_of_block xv1').trans rfl
      have a5 : V2.cell? ⟨y1.heap.size, 5, none⟩ = some (.int .i64 dest) := (cell_of_block xv1').trans rfl
      have d0 : V2.cell? ⟨y2.heap.size, 0, none⟩ = some (.int .i64 kind) := (cell_of_block xV2).trans rfl
      have dd1 : V2.cell? ⟨y2.heap.size, 1, none⟩ = some (.int .i64 client) := (cell_of_block xV2).trans rfl
      have d2 : V2.cell? ⟨y2.heap.size, 2, none⟩ = some (.int .i64 seq) := (cell_of_block xV2).trans rfl
      have d3 : V2.cell? ⟨y2.heap.size, 3, none⟩ = some (.string text) := (cell_of_block xV2).trans rfl
      have d4 : V2.cell? ⟨y2.heap.size, 4, none⟩ = some (.slice mo2 ms.length mc2) := (cell_of_block xV2).trans rfl
      have d5 : V2.cell? ⟨y2.heap.size, 5, none⟩ = some (.int .i64 dest) := (cell_of_block xV2).trans rfl
      have SE := hide (rsame_one ⟨kind, client, seq, text, ms, dest⟩ mo1 mo2 mc1 mc2 V2 hml (Ir.inF (Ir.below (unhide I1) c2V)).ints (o2.below bV2).ints)
      have HV2 := hide hV2
      clear o2 c2 bV2 xV2 hV2 c2V Y2 I1 XV1 xv1' hml
      go_upto_region 11 with fail
      rw [unhide HV2]
      go_wp2_with fail
      refine (unhide SE).mono ?_
      rintro x y3 ⟨rfl, c3⟩
      have P3 := hide (below_far (unhide P2) c3)
      have S3 := hide (unhide S1 _ (unhide P3))
      clear c3 SE a0 a1 a2 a3 a4 a5 d0 dd1 d2 d3 d4 d5
      go_wp2_with fail
      refine (unhide S3).mono ?_
      rintro x y4 ⟨rfl, c4⟩
      have P4 := hide (below_far (unhide P3) c4)
      have S4 := hide (unhide S2 _ (unhide P4))
      clear c4 S3
      go_wp2_with fail
      refine (unhide S4).mono ?_
      rintro x y5 ⟨rfl, c5⟩
      have P5 := hide (below_far (unhide P4) c5)
      clear c5 S4
      go_wp2
      go_roundw
      case rel => exact ⟨i + 1, by omega, by have := unhide HIL; omega, rfl, unhide P5⟩
      case measure => have := unhide HIL; simp [intOf]; omega
    · have d1 : decide (i ≤ L + 1) = false := decide_eq_false hil
      clear hil
      go_wp2
      go_ret
      exact ⟨rfl, unhide B6⟩
end Go.Proofs.Ytmgdkbpbmngibaa
