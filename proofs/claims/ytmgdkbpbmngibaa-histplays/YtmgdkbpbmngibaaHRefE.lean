/- conf's reference: Enter, Leave: the same contracts, with where their answers lie. -/
import Derived.Test.YtmgdkbpbmngibaaKRefE
namespace Go.Proofs.Ytmgdkbpbmngibaa
open Go.RowKit

/-- a configuration's lists lie at base or above. -/
def Hi (base : Nat) (v : Value) : Prop := ∀ ao no co an nn cn, v = .agg #[.slice ao no co, .slice an nn cn] → (∀ a, ao = some a → base ≤ a.block) ∧ ∀ a, an = some a → base ≤ a.block
theorem Hi.mk {base : Nat} {ao an : Option Addr} {no co nn cn : Nat} (h1 : ∀ a, ao = some a → base ≤ a.block) (h2 : ∀ a, an = some a → base ≤ a.block) : Hi base (.agg #[.slice ao no co, .slice an nn cn]) := fun _ _ _ _ _ _ h => by
  cases h
  exact ⟨h1, h2⟩
theorem Hi.nil (base : Nat) : Hi base (.agg #[.slice none 0 0, .slice none 0 0]) := Hi.mk (fun _ h => by cases h) (fun _ h => by cases h)

set_option maxHeartbeats 1000000 in
theorem rleave_hi (ao an : Option Addr) (no nn co cn : Nat) (old new : List Int) (hno : old.length = no) (hnn : new.length = nn) (hln : nn ≤ 1000000) (w : World) (hw : IntsR w an new) :
    Calls Try.prog 37 #[.agg #[.slice ao no co, .slice an nn cn]] w fun e w' => ∃ v, e = .returned (.tuple #[v, .int .i64 ((leaveOf old : Nat) : Int)]) ∧ Cf w' v [] (leaveN old new) ∧ Hi w.heap.size v ∧ Below w.heap.size w w' := by
  obtain ⟨W0, hW0, bW0, xW0, sW0⟩ := boxed w (.slice ao no co) (.slice an nn cn)
  obtain ⟨W, hW, bW1, xW1, sW1⟩ := boxed W0 (.slice none 0 0) (.slice none 0 0)
  have bW := bW0.trans (bW1.mono bW0.size)
  have JO := hide (rjoint_any (.slice ao no co) (.slice an nn cn) ao no co rfl W)
  have IN := hide (fun (Y : World) (h : Below W.heap.size W Y) => (hw.below bW).below h)
  obtain ⟨j, hj⟩ : ∃ j, decide (0 < no) = j := ⟨_, rfl⟩
  obtain ⟨r, hr⟩ : ∃ r, leaveOf old = r := ⟨_, rfl⟩
  obtain ⟨en, hen⟩ : ∃ en, leaveN old new = en := ⟨_, rfl⟩
  have HE : Hid ((j = false → 2 = r ∧ [] = en) ∧ (j = true → 0 = r ∧ new = en)) := by
    rw [← hen, ← hr]
    exact ⟨fun h => leave_none hno (hj.trans h) new, fun h => leave_joint hno (hj.trans h) new⟩
  rw [hj] at JO
  rw [hr, hen]
  have HW : Hid ((w.alloc (.cells #[.slice ao no co, .slice an nn cn] 34)).alloc (.cells #[.slice none 0 0, .slice none 0 0] 34) = W) := by rw [hW0]; exact hW
  have BW := hide bW
  have XA := hide (Below.stay bW1 xW0)
  have SW : Hid (W.heap.size = w.heap.size + 1 + 1) := by show _ = _; rw [sW1, sW0]
  rw [sW0] at xW1
  have XB := hide xW1
  have HNN := hide hnn
  clear hW bW hW0 bW0 bW1 xW0 xW1 sW0 sW1 hr hj hen hw hno hnn
  go_enter Try.func37, Try.ntmps37
  go_wp2_with fail
  rw [unhide HW]
  refine (unhide JO).mono ?_
  rintro e w1 ⟨rfl, b1⟩
  have CB := hide b1
  have B1 := hide ((unhide BW).trans (b1.mono (unhide BW).size))
  have X1 := hide (Below.stay b1 (unhide XB))
  have XA1 := hide (Below.stay b1 (unhide XA))
  clear b1 JO HW
  cases j
  · obtain ⟨rfl, rfl⟩ := (unhide HE).1 rfl
    obtain ⟨d0, d1⟩ := two_cells (unhide X1)
    obtain ⟨g0, g1⟩ := two_free (unhide X1)
    clear HE
    go_wp2
    obtain ⟨r0, r1, rb, rk⟩ := two_end (a := .slice none 0 0) (b := .slice none 0 0) (unhide X1) (Nat.le_succ _) (unhide B1)
    exact bodyPost_ret (v := .tuple #[.agg #[.slice none 0 0, .slice none 0 0], .int .i64 2]) (by simp [results, Try.results37, go_sem, r0, r1]) rfl ⟨_, rfl, Cf.nil _, Hi.nil _, rb⟩
  · obtain ⟨rfl, rfl⟩ := (unhide HE).2 rfl
    obtain ⟨A1, hA1⟩ : ∃ A1, w1.alloc (.cells #[] 3) = A1 := ⟨_, rfl⟩
    have bA1 : Below w1.heap.size w1 A1 := by rw [← hA1]; exact (Below.refl _ w1).alloc (Nat.le_refl _) _
    have OA : Hid (Ir w1.heap.size A1 (.slice (some ⟨w1.heap.size, 0, none⟩) 0 0) []) := by rw [← hA1]; exact empty_ir _ _ (Nat.le_refl _)
    obtain ⟨c0, c1⟩ := two_cells (Below.stay bA1 (unhide XA1))
    rw [← hA1] at c0 c1
    have HA1 := hide hA1
    have BA1 := hide bA1
    have I1 := hide (unhide IN _ ((unhide CB).trans (bA1.mono (unhide CB).size)))
    have s1 : w1.heap.size ≤ A1.heap.size := bA1.size
    clear HE hA1 bA1 IN
    go_upto_region 3 with fail
    go_wp2_with (at_builtin; rw [unhide HA1]; refine wpList_app rfl (.tmp 8) (.tmp 10) rfl w1.heap.size _ [] rfl (unhide OA) an nn cn new rfl (unhide HNN) (unhide I1) (by simp; omega) s1 ?_)
    intro v3 w3 own3 g3
    have b3 := (unhide OA).grown g3 (unhide BA1) s1
    have x3 := Below.stay b3 (unhide X1)
    have X3 := hide x3
    have B3 := hide ((unhide B1).trans (b3.mono (unhide B1).size))
    obtain ⟨a3, p3, rfl, f3, l3, _⟩ := own3.slice
    have hk3 : Hid (∀ a, a3 = some a → w.heap.size ≤ a.block) := fun a ha => by
      have := own3.blk a ha
      have := (unhide CB).size
      have := unhide SW
      omega
    have k3 : Hid (∀ a, a3 = some a → a.block ≠ w.heap.size + 1) := fun a ha => by
      have := own3.blk a ha
      have := (unhide CB).size
      have := unhide SW
      omega
    have F3 := hide f3
    have L3 := hide l3
    obtain ⟨d0, d1⟩ := two_cells x3
    obtain ⟨g0, g1⟩ := two_free x3
    clear own3 b3 x3 f3 l3 X1 c0 c1 g3
    go_wp2
    obtain ⟨r0, r1, rb, rk⟩ := two_end (a := .slice none 0 0) (b := .slice a3 new.length p3) (unhide X3) (Nat.le_succ _) (unhide B3)
    refine bodyPost_ret (v := .tuple #[.agg #[.slice none 0 0, .slice a3 new.length p3], .int .i64 0]) (by simp [results, Try.results37, go_sem, r0, r1]) rfl ⟨_, rfl, ?_, Hi.mk (fun _ h => by cases h) (unhide hk3), rb⟩
    exact ⟨_, _, _, _, _, _, rfl, rfl, Nat.le_refl _, Fr.nil _, rfl, unhide L3, (unhide F3).other rk (unhide k3)⟩

set_option maxHeartbeats 2000000 in
theorem renter_hi (ao an ab : Option Addr) (no nn nt co cn ct : Nat) (old new to' : List Int) (hno : old.length = no) (hnn : new.length = nn) (hnt : to'.length = nt) (_hlo : no ≤ 1000000) (hln : nn ≤ 1000000) (hlt : nt ≤ 1000000) (w : World) (hw : IntsR w an new) (ht : IntsR w ab to') :
    Calls Try.prog 36 #[.agg #[.slice ao no co, .slice an nn cn], .slice ab nt ct] w fun e w' => ∃ v, e = .returned (.tuple #[v, .int .i64 ((barredOf old new to' : Nat) : Int)]) ∧ Cf w' v (entO old new to') (entN old new to') ∧ Hi w.heap.size v ∧ Below w.heap.size w w' := by
  obtain ⟨W0, hW0, bW0, xW0, sW0⟩ := boxed w (.slice ao no co) (.slice an nn cn)
  obtain ⟨W, hW, bW1, xW1, sW1⟩ := boxed W0 (.slice none 0 0) (.slice none 0 0)
  have bW := bW0.trans (bW1.mono bW0.size)
  have JO := hide (rjoint_any (.slice ao no co) (.slice an nn cn) ao no co rfl W)
  have CH := hide (fun (Y : World) (h : Below W.heap.size W Y) => rcheck_any none ab 0 nt 0 ct [] to' rfl hnt (by decide) (by omega) Y (IntsR.nil _ _) ((ht.below bW).below h))
  have EQ := hide (fun (Y : World) (h : Below W.heap.size W Y) => ysame_any an ab nn nt cn ct new to' hnn hnt (by omega) Y ((hw.below bW).below h) ((ht.below bW).below h))
  have IN := hide (fun (Y : World) (h : Below W.heap.size W Y) => (hw.below bW).below h)
  have IT := hide (fun (Y : World) (h : Below W.heap.size W Y) => (ht.below bW).below h)
  obtain ⟨r, hr⟩ : ∃ r, barredOf old new to' = r := ⟨_, rfl⟩
  obtain ⟨eo, heo⟩ : ∃ eo, entO old new to' = eo := ⟨_, rfl⟩
  obtain ⟨en, hen⟩ : ∃ en, entN old new to' = en := ⟨_, rfl⟩
  have HE : Hid ((r = 0 → new = eo ∧ to' = en) ∧ (¬ r = 0 → [] = eo ∧ [] = en)) := by
    rw [← heo, ← hen, ← hr]
    unfold entO entN
    exact ⟨fun h => by rw [if_pos h, if_pos h]; exact ⟨rfl, rfl⟩, fun h => by rw [if_neg h, if_neg h]; exact ⟨rfl, rfl⟩⟩
  obtain ⟨j, hj⟩ : ∃ j, decide (0 < no) = j := ⟨_, rfl⟩
  obtain ⟨cc, hcc⟩ : ∃ cc, checkOf [] to' = cc := ⟨_, rfl⟩
  obtain ⟨q, hq⟩ : ∃ q, decide (new = to') = q := ⟨_, rfl⟩
  have HJ : Hid (j = true → 15 = r) := fun h => by rw [← hr, barred_joint hno (hj.trans h)]
  have HP : Hid (j = false → (if cc = 0 then (if q = true then 7 else 0) else cc) = r) := fun h => by
    rw [← hr, barred_plain hno (hj.trans h), hcc, ← hq]
    by_cases e : new = to'
    · simp [e]
    · have e' : ¬ to' = new := fun k => e k.symm
      simp [e, e']
  have HZ : Hid (nt = 0 → cc = 2) := fun h => by
    have e : to' = [] := List.eq_nil_of_length_eq_zero (by omega)
    rw [← hcc, e]; rfl
  rw [hj] at JO
  rw [hcc] at CH
  rw [hq] at EQ
  rw [hr, heo, hen]
  have HW : Hid ((w.alloc (.cells #[.slice ao no co, .slice an nn cn] 34)).alloc (.cells #[.slice none 0 0, .slice none 0 0] 34) = W) := by rw [hW0]; exact hW
  have BW := hide bW
  have XA := hide (Below.stay bW1 xW0)
  have SW : Hid (W.heap.size = w.heap.size + 1 + 1) := by show _ = _; rw [sW1, sW0]
  rw [sW0] at xW1
  have XB := hide xW1
  have HNN := hide hnn
  have HNT := hide hnt
  clear hW bW hW0 bW0 bW1 xW0 xW1 sW0 sW1 hr heo hen hj hcc hq hw ht hno hnn hnt
  go_enter Try.func36, Try.ntmps36
  go_wp2_with fail
  rw [unhide HW]
  refine (unhide JO).mono ?_
  rintro e w1 ⟨rfl, b1⟩
  have CB := hide b1
  have B1 := hide ((unhide BW).trans (b1.mono (unhide BW).size))
  obtain ⟨c0, c1⟩ := two_cells (Below.stay b1 (unhide XA))
  have X1 := hide (Below.stay b1 (unhide XB))
  clear b1 JO HW
  cases j
  · have HR := hide (unhide HP rfl)
    clear HJ HP
    by_cases hn0 : nt = 0
    · obtain rfl := unhide HZ hn0
      obtain rfl : 2 = r := unhide HR
      obtain ⟨rfl, rfl⟩ := (unhide HE).2 (by decide)
      subst hn0
      obtain ⟨d0, d1⟩ := two_cells (unhide X1)
      obtain ⟨g0, g1⟩ := two_free (unhide X1)
      clear HE HZ HR CH EQ
      go_wp2
      obtain ⟨r0, r1, rb, rk⟩ := two_end (a := .slice none 0 0) (b := .slice none 0 0) (unhide X1) (Nat.le_succ _) (unhide B1)
      exact bodyPost_ret (v := .tuple #[.agg #[.slice none 0 0, .slice none 0 0], .int .i64 2]) (by simp [results, Try.results36, go_sem, r0, r1]) rfl ⟨_, rfl, Cf.nil _, Hi.nil _, rb⟩
    · have hn0' : ((nt : Int) == 0) = false := by simp; omega
      clear hn0 HZ
      go_wp2_with fail
      refine (unhide CH _ (unhide CB)).mono ?_
      rintro e w2 ⟨rfl, b2⟩
      have CB2 := hide ((unhide CB).trans (b2.mono (unhide CB).size))
      have B2 := hide ((unhide B1).trans (b2.mono (unhide B1).size))
      have X2 := hide (Below.stay b2 (unhide X1))
      clear c0 c1
      obtain ⟨c0, c1⟩ := two_cells (Below.stay (unhide CB2) (unhide XA))
      clear b2 CB B1 X1
      by_cases hz : cc = 0
      · have HR2 := unhide HR
        rw [if_pos hz] at HR2
        have HR3 := hide HR2
        subst hz
        clear HR HR2 CH
        go_wp2_with fail
        refine (unhide EQ _ (unhide CB2)).mono ?_
        rintro e w3 ⟨rfl, b3⟩
        have CB3 := hide ((unhide CB2).trans (b3.mono (unhide CB2).size))
        have B3 := hide ((unhide B2).trans (b3.mono (unhide B2).size))
        have X3 := hide (Below.stay b3 (unhide X2))
        clear c0 c1 b3 CB2 B2 X2 EQ
        cases q
        · obtain rfl : 0 = r := unhide HR3
          obtain ⟨rfl, rfl⟩ := (unhide HE).1 rfl
          obtain ⟨A1, hA1⟩ : ∃ A1, w3.alloc (.cells #[] 3) = A1 := ⟨_, rfl⟩
          have bA1 : Below w3.heap.size w3 A1 := by rw [← hA1]; exact (Below.refl _ w3).alloc (Nat.le_refl _) _
          have OA : Hid (Ir w3.heap.size A1 (.slice (some ⟨w3.heap.size, 0, none⟩) 0 0) []) := by rw [← hA1]; exact empty_ir _ _ (Nat.le_refl _)
          obtain ⟨c0, c1⟩ := two_cells (Below.stay bA1 (Below.stay (unhide CB3) (unhide XA)))
          rw [← hA1] at c0 c1
          have HA1 := hide hA1
          have BA1 := hide bA1
          have I1 := hide (unhide IN _ ((unhide CB3).trans (bA1.mono (unhide CB3).size)))
          have s1 : w3.heap.size ≤ A1.heap.size := bA1.size
          clear HE HR3 hA1 bA1 IN
          go_upto_region 9 with fail
          go_wp2_with (at_builtin; rw [unhide HA1]; refine wpList_app rfl (.tmp 30) (.tmp 32) rfl w3.heap.size _ [] rfl (unhide OA) an nn cn new rfl (unhide HNN) (unhide I1) (by simp; omega) s1 ?_)
          intro v4 w4 own4 g4
          have b4 := (unhide OA).grown g4 (unhide BA1) s1
          have E4 := hide b4
          have CB4 := hide ((unhide CB3).trans (b4.mono (unhide CB3).size))
          have O4 := hide own4
          obtain ⟨A2, hA2⟩ : ∃ A2, w4.alloc (.cells #[] 3) = A2 := ⟨_, rfl⟩
          have bA2 : Below w4.heap.size w4 A2 := by rw [← hA2]; exact (Below.refl _ w4).alloc (Nat.le_refl _) _
          have OA2 : Hid (Ir w4.heap.size A2 (.slice (some ⟨w4.heap.size, 0, none⟩) 0 0) []) := by rw [← hA2]; exact empty_ir _ _ (Nat.le_refl _)
          have HA2 := hide hA2
          have BA2 := hide bA2
          have I2 := hide (unhide IT _ ((unhide CB4).trans (bA2.mono (unhide CB4).size)))
          have s2 : w4.heap.size ≤ A2.heap.size := bA2.size
          clear own4 g4 b4 hA2 bA2 c0 c1 HA1 BA1 OA s1
          go_wp2_with (at_builtin; rw [unhide HA2]; refine wpList_app rfl (.tmp 34) (.tmp 35) rfl w4.heap.size _ [] rfl (unhide OA2) ab nt ct to' rfl (unhide HNT) (unhide I2) (by simp; omega) s2 ?_)
          intro v5 w5 own5 g5
          have b5 := (unhide OA2).grown g5 (unhide BA2) s2
          have b35 := (unhide E4).trans (b5.mono (unhide E4).size)
          have x5 := Below.stay b35 (unhide X3)
          have X5 := hide x5
          have B5 := hide ((unhide B3).trans (b35.mono (unhide B3).size))
          have o45 := (unhide O4).below b5
          obtain ⟨a2, p2, rfl, f2, l2, _⟩ := o45.slice
          obtain ⟨a3, p3, rfl, f3, l3, _⟩ := own5.slice
          have hk2 : Hid (∀ a, a2 = some a → w.heap.size ≤ a.block) := fun a ha => by
            have := o45.blk a ha
            have := (unhide CB3).size
            have := unhide SW
            omega
          have k2 : Hid (∀ a, a2 = some a → a.block ≠ w.heap.size + 1) := fun a ha => by
            have := o45.blk a ha
            have := (unhide CB3).size
            have := unhide SW
            omega
          have hk3 : Hid (∀ a, a3 = some a → w.heap.size ≤ a.block) := fun a ha => by
            have := own5.blk a ha
            have := (unhide CB4).size
            have := unhide SW
            omega
          have k3 : Hid (∀ a, a3 = some a → a.block ≠ w.heap.size + 1) := fun a ha => by
            have := own5.blk a ha
            have := (unhide CB4).size
            have := unhide SW
            omega
          have F2 := hide f2
          have F3 := hide f3
          have L2 := hide l2
          have L3 := hide l3
          obtain ⟨d0, d1⟩ := two_cells x5
          obtain ⟨g0, g1⟩ := two_free x5
          clear own5 o45 O4 b5 b35 x5 f2 f3 l2 l3 X3 g5
          go_wp2
          obtain ⟨r0, r1, rb, rk⟩ := two_end (a := .slice a2 new.length p2) (b := .slice a3 to'.length p3) (unhide X5) (Nat.le_succ _) (unhide B5)
          refine bodyPost_ret (v := .tuple #[.agg #[.slice a2 new.length p2, .slice a3 to'.length p3], .int .i64 0]) (by simp [results, Try.results36, go_sem, r0, r1]) rfl ⟨_, rfl, ?_, Hi.mk (unhide hk2) (unhide hk3), rb⟩
          exact ⟨_, _, _, _, _, _, rfl, rfl, unhide L2, (unhide F2).other rk (unhide k2), rfl, unhide L3, (unhide F3).other rk (unhide k3)⟩
        · obtain rfl : 7 = r := unhide HR3
          obtain ⟨rfl, rfl⟩ := (unhide HE).2 (by decide)
          obtain ⟨d0, d1⟩ := two_cells (unhide X3)
          obtain ⟨g0, g1⟩ := two_free (unhide X3)
          clear HE HR3
          go_wp2
          obtain ⟨r0, r1, rb, rk⟩ := two_end (a := .slice none 0 0) (b := .slice none 0 0) (unhide X3) (Nat.le_succ _) (unhide B3)
          exact bodyPost_ret (v := .tuple #[.agg #[.slice none 0 0, .slice none 0 0], .int .i64 7]) (by simp [results, Try.results36, go_sem, r0, r1]) rfl ⟨_, rfl, Cf.nil _, Hi.nil _, rb⟩
      · have hz' : ((cc : Int) != 0) = true := by rw [bne_iff_ne]; omega
        obtain rfl : cc = r := by
          have := unhide HR
          rw [if_neg hz] at this; exact this
        obtain ⟨rfl, rfl⟩ := (unhide HE).2 hz
        clear HR hz HE
        go_wp2_with fail
        refine (unhide CH _ (unhide CB2)).mono ?_
        rintro e w3 ⟨rfl, b3⟩
        have B3 := hide ((unhide B2).trans (b3.mono (unhide B2).size))
        have X3 := hide (Below.stay b3 (unhide X2))
        obtain ⟨d0, d1⟩ := two_cells (unhide X3)
        obtain ⟨g0, g1⟩ := two_free (unhide X3)
        clear b3
        go_wp2
        obtain ⟨r0, r1, rb, rk⟩ := two_end (a := .slice none 0 0) (b := .slice none 0 0) (unhide X3) (Nat.le_succ _) (unhide B3)
        exact bodyPost_ret (v := .tuple #[.agg #[.slice none 0 0, .slice none 0 0], .int .i64 cc]) (by simp [results, Try.results36, go_sem, r0, r1]) rfl ⟨_, rfl, Cf.nil _, Hi.nil _, rb⟩
  · obtain rfl := unhide HJ rfl
    obtain ⟨rfl, rfl⟩ := (unhide HE).2 (by decide)
    obtain ⟨d0, d1⟩ := two_cells (unhide X1)
    obtain ⟨g0, g1⟩ := two_free (unhide X1)
    clear HE HJ HP HZ
    go_wp2
    obtain ⟨r0, r1, rb, rk⟩ := two_end (a := .slice none 0 0) (b := .slice none 0 0) (unhide X1) (Nat.le_succ _) (unhide B1)
    exact bodyPost_ret (v := .tuple #[.agg #[.slice none 0 0, .slice none 0 0], .int .i64 15]) (by simp [results, Try.results36, go_sem, r0, r1]) rfl ⟨_, rfl, Cf.nil _, Hi.nil _, rb⟩
end Go.Proofs.Ytmgdkbpbmngibaa
