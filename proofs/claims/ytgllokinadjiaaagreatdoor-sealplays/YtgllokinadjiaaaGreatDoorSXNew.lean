/- The document's New and At: contracts. -/
import Derived.Test.YtgllokinadjiaaaGreatDoorSXG
namespace Go.Proofs.YtgllokinadjiaaaGreatDoor
open Go.RowKit Go.Maps

theorem wrongB_first {f g : Bool} {c : Nat} {j k : Bool} (h : f = false ∨ g = false) : wrongB f g c j k = 1 := by unfold wrongB; rw [if_pos h]
theorem wrongB_rest {f g : Bool} {c : Nat} {j k : Bool} (h : f = true) (h2 : g = true) : wrongB f g c j k = if c ≠ 0 then (c : Int) else if j = true then 1 else if k = true then 4 else 0 := by unfold wrongB; rw [if_neg (by simp [h, h2])]
/-- what New answers. -/
def XNewOut (F : Nat → Prop) (base : Nat) (w : World) (r : Int) (g : Gn) (x : Ending) (w' : World) : Prop :=
  Below w.heap.size w w' ∧ (r ≠ 0 → x = .returned (.tuple #[.pointer none, .int .i64 r])) ∧ (r = 0 → ∃ p rv, x = .returned (.tuple #[.pointer (some ⟨p, 0, none⟩), .int .i64 0]) ∧ XG F base w' p rv [g] ∧ w.heap.size ≤ p ∧ ∀ k, rv.ownBlock = some k → w.heap.size ≤ k ∧ k ≠ p)
set_option maxRecDepth 20000 in
set_option maxHeartbeats 4000000 in
theorem xnew_any (F : Nat → Prop) (base : Nat) (w : World) (hbase : base ≤ w.heap.size) (g : Gn) (xo mo : Option Addr) (xn xc m mc : Nat) (old : List Int) (hno : old.length = xn) (hnn : g.ms.length = m) (hlo : xn ≤ 1000) (hln : m ≤ 1000) (ho : IntsR w xo old) (hw : InF F w mo g.ms) :
    Calls Tryz.prog 8 #[.agg #[.int .i64 g.n, .int .i64 g.eng, .int .i64 g.base, .slice xo xn xc, .slice mo m mc]] w fun x w' => XNewOut F base w (wrongG [] g.n g.eng g.base old g.ms) g x w' := by
  obtain ⟨W, hW, bW, xW⟩ := boxG w g.n g.eng g.base xo mo xn xc m mc
  have CE := hide (fun Y => xengine_any g.eng Y)
  have CC := hide (fun Y (h : Below W.heap.size W Y) => rcheck_any xo mo xn m xc mc old g.ms hno hnn (by omega) (by omega) Y (ho.below (below_far bW h)) (hw.ints.below (below_far bW h)))
  have CJ := hide (fun Y => rjoint_any (.slice xo xn xc) (.slice mo m mc) xo xn xc rfl Y)
  have HG := hide (And.intro hno (And.intro hnn hw))
  obtain ⟨gn, hgn⟩ : ∃ k, g.n = k := ⟨_, rfl⟩
  obtain ⟨ge, hge⟩ : ∃ k, g.eng = k := ⟨_, rfl⟩
  obtain ⟨gb, hgb⟩ : ∃ k, g.base = k := ⟨_, rfl⟩
  obtain ⟨ck, hck⟩ : ∃ k, checkOf old g.ms = k := ⟨_, rfl⟩
  obtain ⟨R, hR⟩ : ∃ R, wrongG [] g.n g.eng g.base old g.ms = R := ⟨_, rfl⟩
  have hR2 : R = wrongB (decide (1 ≤ gn) && decide (0 ≤ gb)) (decide (ge = 1 ∨ ge = 2)) ck (decide (0 < xn)) false := by
    rw [← hR]; unfold wrongG followsOf; rw [hgn, hge, hgb, hck, hno]; rfl
  rw [hR]
  rw [hck] at CC
  rw [hge] at CE
  rw [hgn, hge, hgb] at xW hW ⊢
  have HR := hide hR2
  have k0 : W.cell? ⟨w.heap.size, 0, none⟩ = some (.int .i64 gn) := (cell_of_block xW).trans rfl
  have k1 : W.cell? ⟨w.heap.size, 1, none⟩ = some (.int .i64 ge) := (cell_of_block xW).trans rfl
  have k2 : W.cell? ⟨w.heap.size, 2, none⟩ = some (.int .i64 gb) := (cell_of_block xW).trans rfl
  have k3 : W.cell? ⟨w.heap.size, 3, none⟩ = some (.slice xo xn xc) := (cell_of_block xW).trans rfl
  have k4 : W.cell? ⟨w.heap.size, 4, none⟩ = some (.slice mo m mc) := (cell_of_block xW).trans rfl
  have XW := hide xW
  have HW := hide hW
  have BW := hide bW
  have HN := hide hgn
  have HE := hide hge
  have HB := hide hgb
  clear hno hnn ho hw hck hR hR2 xW hW bW hgn hge hgb
  by_cases g1 : gn < 1
  · have r1 : R = 1 := by rw [unhide HR, wrongB_first (Or.inl (by simp; omega))]
    subst r1
    clear HR CE CC CJ
    go_enter Tryz.func8, Tryz.ntmps8
    go_upto_region 1 with fail
    rw [unhide HW]
    go_wp2
    refine bodyPost_ret (v := .tuple #[.pointer none, .int .i64 1]) (by simp [results, Tryz.results8, go_sem]) rfl ⟨unhide BW, fun _ => rfl, fun h => absurd h (by decide)⟩
  · by_cases g2 : ge = 1 ∨ ge = 2
    · have CE1 := hide (fun Y => by have := unhide CE Y; rw [decide_eq_true g2] at this; exact this)
      by_cases g3 : gb < 0
      · have r1 : R = 1 := by rw [unhide HR, wrongB_first (Or.inl (by simp; omega))]
        subst r1
        clear HR CE CC CJ g2
        go_enter Tryz.func8, Tryz.ntmps8
        go_upto_region 1 with fail
        rw [unhide HW]
        go_wp2_with fail
        refine (unhide CE1 _).mono ?_
        rintro x w1 ⟨rfl, rfl⟩
        go_wp2_with fail
        refine bodyPost_ret (v := .tuple #[.pointer none, .int .i64 1]) (by simp [results, Tryz.results8, go_sem]) rfl ⟨unhide BW, fun _ => rfl, fun h => absurd h (by decide)⟩
      · have r1 : R = if ck ≠ 0 then (ck : Int) else if decide (0 < xn) = true then 1 else 0 := by
          rw [unhide HR, wrongB_rest (by simp; omega) (decide_eq_true g2)]; simp
        have HR1 := hide r1
        clear HR CE r1 g2
        by_cases g4 : ck = 0
        · subst g4
          by_cases g5 : 0 < xn
          · have r2 : R = 1 := by rw [unhide HR1, if_neg (by simp), if_pos (decide_eq_true g5)]
            subst r2
            have CJ1 := hide (fun Y => by have := unhide CJ Y; rw [decide_eq_true g5] at this; exact this)
            clear HR1 CJ
            go_enter Tryz.func8, Tryz.ntmps8
            go_upto_region 1 with fail
            rw [unhide HW]
            go_wp2_with fail
            refine (unhide CE1 _).mono ?_
            rintro x w1 ⟨rfl, rfl⟩
            go_wp2_with fail
            refine (unhide CC _ (Below.refl _ _)).mono ?_
            rintro x w2 ⟨rfl, b2⟩
            have x2 := Below.stay b2 (unhide XW)
            have j3 : w2.cell? ⟨w.heap.size, 3, none⟩ = some (.slice xo xn xc) := (cell_of_block x2).trans rfl
            have j4 : w2.cell? ⟨w.heap.size, 4, none⟩ = some (.slice mo m mc) := (cell_of_block x2).trans rfl
            have B2 := hide (below_far (unhide BW) b2)
            clear x2 b2 k0 k1 k2 k3 k4
            go_wp2_with fail
            refine (unhide CJ1 _).mono ?_
            rintro x w3 ⟨rfl, b3⟩
            have B3 := hide (below_far (unhide B2) b3)
            clear b3
            go_wp2_with fail
            refine bodyPost_ret (v := .tuple #[.pointer none, .int .i64 1]) (by simp [results, Tryz.results8, go_sem]) rfl ⟨unhide B3, fun _ => rfl, fun h => absurd h (by decide)⟩
          · have r2 : R = 0 := by rw [unhide HR1, if_neg (by simp), if_neg (by simp [g5])]
            subst r2
            obtain rfl : xn = 0 := by omega
            have CJ1 := hide (fun Y => by have := unhide CJ Y; rw [decide_eq_false g5] at this; exact this)
            clear HR1 CJ
            go_enter Tryz.func8, Tryz.ntmps8
            go_upto_region 1 with fail
            rw [unhide HW]
            go_wp2_with fail
            refine (unhide CE1 _).mono ?_
            rintro x w1 ⟨rfl, rfl⟩
            go_wp2_with fail
            refine (unhide CC _ (Below.refl _ _)).mono ?_
            rintro x w2 ⟨rfl, b2⟩
            have x2 := Below.stay b2 (unhide XW)
            have j3 : w2.cell? ⟨w.heap.size, 3, none⟩ = some (.slice xo 0 xc) := (cell_of_block x2).trans rfl
            have j4 : w2.cell? ⟨w.heap.size, 4, none⟩ = some (.slice mo m mc) := (cell_of_block x2).trans rfl
            have B2 := hide (below_far (unhide BW) b2)
            have X2 := hide x2
            clear x2 b2 k0 k1 k2 k3 k4
            go_wp2_with fail
            refine (unhide CJ1 _).mono ?_
            rintro x w3 ⟨rfl, b3⟩
            have B3 := hide (below_far (unhide B2) b3)
            have x3 := Below.stay b3 (unhide X2)
            have i0 : w3.cell? ⟨w.heap.size, 0, none⟩ = some (.int .i64 gn) := (cell_of_block x3).trans rfl
            have i1 : w3.cell? ⟨w.heap.size, 1, none⟩ = some (.int .i64 ge) := (cell_of_block x3).trans rfl
            have i2 : w3.cell? ⟨w.heap.size, 2, none⟩ = some (.int .i64 gb) := (cell_of_block x3).trans rfl
            have i3 : w3.cell? ⟨w.heap.size, 3, none⟩ = some (.slice xo 0 xc) := (cell_of_block x3).trans rfl
            have i4 : w3.cell? ⟨w.heap.size, 4, none⟩ = some (.slice mo m mc) := (cell_of_block x3).trans rfl
            clear b3 j3 j4 x3 X2
            go_wp2_with fail
            refine bodyPost_ret (v := .tuple #[.pointer (some ⟨w3.heap.size + 1, 0, none⟩), .int .i64 0]) (by simp [results, Tryz.results8, go_sem]) rfl ?_
            have s1 : (w3.alloc (.cells #[.int .i64 gn, .int .i64 ge, .int .i64 gb, .slice xo 0 xc, .slice mo m mc] 26)).heap.size = w3.heap.size + 1 := World.size_alloc _ _
            have b4 : Below w3.heap.size w3 (w3.alloc (.cells #[.int .i64 gn, .int .i64 ge, .int .i64 gb, .slice xo 0 xc, .slice mo m mc] 26)) := (Below.refl _ w3).alloc (Nat.le_refl _) _
            have b5 : Below (w3.heap.size + 1) (w3.alloc (.cells #[.int .i64 gn, .int .i64 ge, .int .i64 gb, .slice xo 0 xc, .slice mo m mc] 26)) ((w3.alloc (.cells #[.int .i64 gn, .int .i64 ge, .int .i64 gb, .slice xo 0 xc, .slice mo m mc] 26)).alloc (.cells #[.slice (some ⟨w3.heap.size, 0, none⟩) 1 1] 49)) := by
              rw [← s1]; exact (Below.refl _ _).alloc (Nat.le_refl _) _
            rw [← s1] at b5
            have bT := below_far (unhide B3) (below_far b4 b5)
            have hs3 := (unhide B3).size
            refine ⟨bT, fun h => absurd rfl h, fun _ => ⟨w3.heap.size + 1, .slice (some ⟨w3.heap.size, 0, none⟩) 1 1, rfl, ⟨?_, ?_, by omega⟩, by omega, fun k hk => ?_⟩⟩
            · have := box_at (w3.alloc (.cells #[.int .i64 gn, .int .i64 ge, .int .i64 gb, .slice xo 0 xc, .slice mo m mc] 26)) (.cells #[.slice (some ⟨w3.heap.size, 0, none⟩) 1 1] 49)
              rw [s1] at this; exact this
            · obtain ⟨hno, hnn, hw⟩ := unhide HG
              have hx : ((w3.alloc (.cells #[.int .i64 gn, .int .i64 ge, .int .i64 gb, .slice xo 0 xc, .slice mo m mc] 26)).alloc (.cells #[.slice (some ⟨w3.heap.size, 0, none⟩) 1 1] 49)).heap[w3.heap.size]? = some (.cells #[.int .i64 gn, .int .i64 ge, .int .i64 gb, .slice xo 0 xc, .slice mo m mc] 26 (0, 0)) := Below.stay b5 (box_at w3 _)
              refine ⟨[.int .i64 gn, .int .i64 ge, .int .i64 gb, .slice xo 0 xc, .slice mo m mc], ⟨rfl, Or.inr ⟨w3.heap.size, 1, _, rfl, by omega, hx, Nat.le_refl _, by decide, by simp, by simp⟩⟩, fun i q hq => ?_⟩
              have hi0 : i = 0 := by have := (List.getElem?_eq_some_iff.1 hq).1; simp at this; omega
              subst hi0
              simp at hq
              subst hq
              refine ⟨xo, xc, mo, mc, fun j u hj => ?_, hw.below bT, by rw [hnn]; exact hln⟩
              rw [hnn] at hj
              rw [← unhide HN, ← unhide HE, ← unhide HB, Nat.zero_mul, Nat.zero_add]
              exact hj
            · obtain rfl : w3.heap.size = k := by simpa [Value.ownBlock] using hk
              exact ⟨by omega, by omega⟩
        · have r2 : R = (ck : Int) := by rw [unhide HR1, if_pos g4]
          subst r2
          have q4 : ((ck : Int) != 0) = true := by rw [bne_iff_ne]; omega
          have HC0 : Hid ((ck : Int) ≠ 0) := hide (by omega)
          clear HR1 CJ g4
          go_enter Tryz.func8, Tryz.ntmps8
          go_upto_region 1 with fail
          rw [unhide HW]
          go_wp2_with fail
          refine (unhide CE1 _).mono ?_
          rintro x w1 ⟨rfl, rfl⟩
          go_wp2_with fail
          refine (unhide CC _ (Below.refl _ _)).mono ?_
          rintro x w2 ⟨rfl, b2⟩
          have x2 := Below.stay b2 (unhide XW)
          have j3 : w2.cell? ⟨w.heap.size, 3, none⟩ = some (.slice xo xn xc) := (cell_of_block x2).trans rfl
          have j4 : w2.cell? ⟨w.heap.size, 4, none⟩ = some (.slice mo m mc) := (cell_of_block x2).trans rfl
          have B2 := hide b2
          clear x2 b2 k0 k1 k2 k3 k4
          go_wp2_with fail
          refine (unhide CC _ (unhide B2)).mono ?_
          rintro x w3 ⟨rfl, b3⟩
          have B3 := hide (below_far (below_far (unhide BW) (unhide B2)) b3)
          clear b3
          go_wp2_with fail
          refine bodyPost_ret (v := .tuple #[.pointer none, .int .i64 (ck : Int)]) (by simp [results, Tryz.results8, go_sem]) rfl ⟨unhide B3, fun _ => rfl, fun h => absurd h (unhide HC0)⟩
    · have r1 : R = 1 := by rw [unhide HR, wrongB_first (Or.inr (decide_eq_false g2))]
      subst r1
      have CE1 := hide (fun Y => by have := unhide CE Y; rw [decide_eq_false g2] at this; exact this)
      clear HR CE CC CJ g2
      go_enter Tryz.func8, Tryz.ntmps8
      go_upto_region 1 with fail
      rw [unhide HW]
      go_wp2_with fail
      refine (unhide CE1 _).mono ?_
      rintro x w1 ⟨rfl, rfl⟩
      go_wp2_with fail
      refine bodyPost_ret (v := .tuple #[.pointer none, .int .i64 1]) (by simp [results, Tryz.results8, go_sem]) rfl ⟨unhide BW, fun _ => rfl, fun h => absurd h (by decide)⟩
end Go.Proofs.YtgllokinadjiaaaGreatDoor
