/- conf.barred, Enter, Leave: contracts. conf.Enter, Leave: contracts. conf.Leave: a contract. -/
import Derived.Test.YtjplhiflemmkfaaGreatDoorHhHSame
import Derived.Test.YtjplhiflemmkfaaGreatDoorHhNBase
namespace Go.Proofs.YtjplhiflemmkfaaGreatDoor.Hh
open Go.RowKit

/-- why a configuration may not enter the joint one to these members. -/
def barredOf (old new to' : List Int) : Nat := if old ≠ [] then 15 else if checkOf [] to' = 0 then (if to' = new then 7 else 0) else checkOf [] to'
theorem barred_joint {old new to' : List Int} {no : Nat} (h : old.length = no) (h0 : decide (0 < no) = true) : barredOf old new to' = 15 := by
  unfold barredOf
  rw [if_pos]
  intro e; subst e; simp at h; subst h; simp at h0
theorem barred_plain {old new to' : List Int} {no : Nat} (h : old.length = no) (h0 : decide (0 < no) = false) : barredOf old new to' = if checkOf [] to' = 0 then (if to' = new then 7 else 0) else checkOf [] to' := by
  unfold barredOf
  rw [if_neg]
  intro e
  have : old.length ≠ 0 := fun z => e (List.eq_nil_of_length_eq_zero z)
  simp at h0; omega

set_option maxHeartbeats 1000000 in
theorem barred_any (ao an ab : Option Addr) (no nn nt co cn ct : Nat) (old new to' : List Int) (hno : old.length = no) (hnn : new.length = nn) (hnt : to'.length = nt) (_hlo : no ≤ 1000000) (_hln : nn ≤ 1000000) (hlt : nt ≤ 1000000) (w : World) (hw : IntsR w an new) (ht : IntsR w ab to') :
    Calls Tryz.prog 275 #[.agg #[.slice ao no co, .slice an nn cn], .slice ab nt ct] w fun e w' => e = .returned (.int .i64 ((barredOf old new to' : Nat) : Int)) ∧ Below w.heap.size w w' := by
  obtain ⟨W, hW, bW, xW, _⟩ := boxed w (.slice ao no co) (.slice an nn cn)
  have JO := hide (joint_any (.slice ao no co) (.slice an nn cn) ao no co rfl W)
  have CH := hide (fun (Y : World) (h : Below W.heap.size W Y) => check_any none ab 0 nt 0 ct [] to' rfl hnt (by decide) (by omega) Y (IntsR.nil _ _) ((ht.below bW).below h))
  have EQ := hide (fun (Y : World) (h : Below W.heap.size W Y) => equal_any ab an nt nn ct cn to' new hnt hnn (by omega) Y ((ht.below bW).below h) ((hw.below bW).below h))
  obtain ⟨R, hR⟩ : ∃ R, barredOf old new to' = R := ⟨_, rfl⟩
  rw [hR]
  obtain ⟨j, hj⟩ : ∃ j, decide (0 < no) = j := ⟨_, rfl⟩
  obtain ⟨r, hr⟩ : ∃ r, checkOf [] to' = r := ⟨_, rfl⟩
  obtain ⟨q, hq⟩ : ∃ q, decide (to' = new) = q := ⟨_, rfl⟩
  have HJ : Hid (j = true → 15 = R) := fun h => by rw [← hR, barred_joint hno (hj.trans h)]
  have HP : Hid (j = false → (if r = 0 then (if q = true then 7 else 0) else r) = R) := fun h => by
    rw [← hR, barred_plain hno (hj.trans h), hr, ← hq]; simp
  rw [hj] at JO
  rw [hr] at CH
  rw [hq] at EQ
  have HW := hide hW
  have BW := hide bW
  have XW := hide xW
  clear hW bW xW hR hr hj hq ht hw hno hnn hnt
  go_enter Tryz.func275, Tryz.ntmps275
  go_wp2_with fail
  rw [unhide HW]
  refine (unhide JO).mono ?_
  rintro e w1 ⟨rfl, b1⟩
  have B1 := hide ((unhide BW).trans (b1.mono (unhide BW).size))
  have CB := hide b1
  have C1 := hide (unhide CH _ b1)
  clear b1 JO CH HW
  cases j
  · have HR := hide (unhide HP rfl)
    clear HJ HP
    go_wp2_with fail
    refine (unhide C1).mono ?_
    rintro e w2 ⟨rfl, b2⟩
    have B2 := hide ((unhide B1).trans (b2.mono (unhide B1).size))
    have CB2 := (unhide CB).trans (b2.mono (unhide CB).size)
    have E2 := hide (unhide EQ _ CB2)
    obtain ⟨c0, c1⟩ := two_cells (Below.stay CB2 (unhide XW))
    clear b2 C1 EQ CB2 CB
    by_cases hz : r = 0
    · have HR2 := unhide HR
      rw [if_pos hz] at HR2
      have HR3 := hide HR2
      subst hz
      clear HR HR2
      go_wp2_with fail
      refine (unhide E2).mono ?_
      rintro e w3 ⟨rfl, b3⟩
      have B3 := hide ((unhide B2).trans (b3.mono (unhide B2).size))
      clear b3 E2
      cases q
      · obtain rfl : 0 = R := unhide HR3
        clear HR3
        go_wp2
        go_ret
        exact ⟨rfl, unhide B3⟩
      · obtain rfl : 7 = R := unhide HR3
        clear HR3
        go_wp2
        go_ret
        exact ⟨rfl, unhide B3⟩
    · have hz' : ((r : Int) != 0) = true := by rw [bne_iff_ne]; omega
      obtain rfl : r = R := by
        have := unhide HR
        rw [if_neg hz] at this; exact this
      clear HR hz
      go_wp2
      go_ret
      exact ⟨rfl, unhide B2⟩
  · obtain rfl := unhide HJ rfl
    clear HJ HP
    go_wp2
    go_ret
    exact ⟨rfl, unhide B1⟩
end Go.Proofs.YtjplhiflemmkfaaGreatDoor.Hh
namespace Go.Proofs.YtjplhiflemmkfaaGreatDoor.Hh
open Go.RowKit

/-- v is a configuration. -/
def Cf (w : World) (v : Value) (old new : List Int) : Prop :=
  ∃ ao no co an nn cn, v = .agg #[.slice ao no co, .slice an nn cn] ∧ old.length = no ∧ no ≤ co ∧ Fr w ao old ∧ new.length = nn ∧ nn ≤ cn ∧ Fr w an new
theorem Cf.below {w w' : World} {v : Value} {old new : List Int} (h : Cf w v old new) (hb : Below w.heap.size w w') : Cf w' v old new := by
  obtain ⟨ao, no, co, an, nn, cn, h1, h2, h3, h4, h5, h6, h7⟩ := h
  exact ⟨ao, no, co, an, nn, cn, h1, h2, h3, h4.below hb, h5, h6, h7.below hb⟩
theorem Fr.nil (w : World) : Fr w none [] := ⟨IntsR.nil _ _, fun a ha => by cases ha⟩
theorem Cf.nil (w : World) : Cf w (.agg #[.slice none 0 0, .slice none 0 0]) [] [] := ⟨none, 0, 0, none, 0, 0, rfl, rfl, Nat.le_refl _, Fr.nil w, rfl, Nat.le_refl _, Fr.nil w⟩
def entO (old new to' : List Int) : List Int := if barredOf old new to' = 0 then new else []
def entN (old new to' : List Int) : List Int := if barredOf old new to' = 0 then to' else []

set_option maxHeartbeats 1000000 in
theorem enter_any (ao an ab : Option Addr) (no nn nt co cn ct : Nat) (old new to' : List Int) (hno : old.length = no) (hnn : new.length = nn) (hnt : to'.length = nt) (hlo : no ≤ 1000000) (hln : nn ≤ 1000000) (hlt : nt ≤ 1000000) (w : World) (hw : IntsR w an new) (ht : IntsR w ab to') :
    Calls Tryz.prog 233 #[.agg #[.slice ao no co, .slice an nn cn], .slice ab nt ct] w fun e w' => ∃ v, e = .returned (.tuple #[v, .int .i64 ((barredOf old new to' : Nat) : Int)]) ∧ Cf w' v (entO old new to') (entN old new to') ∧ Below w.heap.size w w' := by
  obtain ⟨W0, hW0, bW0, xW0, sW0⟩ := boxed w (.slice ao no co) (.slice an nn cn)
  obtain ⟨W, hW, bW1, xW1, sW1⟩ := boxed W0 (.slice none 0 0) (.slice none 0 0)
  have bW := bW0.trans (bW1.mono bW0.size)
  have BA := hide (barred_any ao an ab no nn nt co cn ct old new to' hno hnn hnt hlo hln hlt W (hw.below bW) (ht.below bW))
  have TW := hide (fun (Y : World) (h : Below W.heap.size W Y) => twin_any an nn cn new hnn Y ((hw.below bW).below h) (by omega))
  have TT := hide (fun (Y : World) (h : Below W.heap.size W Y) => twin_any ab nt ct to' hnt Y ((ht.below bW).below h) (by omega))
  obtain ⟨r, hr⟩ : ∃ r, barredOf old new to' = r := ⟨_, rfl⟩
  obtain ⟨eo, heo⟩ : ∃ eo, entO old new to' = eo := ⟨_, rfl⟩
  obtain ⟨en, hen⟩ : ∃ en, entN old new to' = en := ⟨_, rfl⟩
  have HE : Hid ((r = 0 → new = eo ∧ to' = en) ∧ (¬ r = 0 → [] = eo ∧ [] = en)) := by
    rw [← heo, ← hen, ← hr]
    unfold entO entN
    exact ⟨fun h => by rw [if_pos h, if_pos h]; exact ⟨rfl, rfl⟩, fun h => by rw [if_neg h, if_neg h]; exact ⟨rfl, rfl⟩⟩
  rw [hr] at BA
  rw [hr, heo, hen]
  have HW : Hid ((w.alloc (.cells #[.slice ao no co, .slice an nn cn] 26)).alloc (.cells #[.slice none 0 0, .slice none 0 0] 26) = W) := by rw [hW0]; exact hW
  have BW := hide bW
  have XA := hide (Below.stay bW1 xW0)
  have SW : Hid (W.heap.size = w.heap.size + 1 + 1) := by show _ = _; rw [sW1, sW0]
  rw [sW0] at xW1
  have XB := hide xW1
  clear hW bW hW0 bW0 bW1 xW0 xW1 sW0 sW1 hr heo hen hw ht hno hnn hnt
  go_enter Tryz.func233, Tryz.ntmps233
  go_wp2_with fail
  rw [unhide HW]
  refine (unhide BA).mono ?_
  rintro e w1 ⟨rfl, b1⟩
  have CB := hide b1
  have B1 := hide ((unhide BW).trans (b1.mono (unhide BW).size))
  obtain ⟨c0, c1⟩ := two_cells (Below.stay b1 (unhide XA))
  have X1 := hide (Below.stay b1 (unhide XB))
  clear b1 BA HW
  by_cases hz : r = 0
  · obtain ⟨rfl, rfl⟩ := (unhide HE).1 hz
    subst hz
    have T1 := hide (unhide TW _ (unhide CB))
    clear HE TW
    go_wp2_with fail
    refine (unhide T1).mono ?_
    rintro e w2 ⟨v2, rfl, o2, b2⟩
    have CB2 := hide ((unhide CB).trans (b2.mono (unhide CB).size))
    have B2 := hide ((unhide B1).trans (b2.mono (unhide B1).size))
    have X2 := hide (Below.stay b2 (unhide X1))
    have O2 := hide o2
    have S1 := hide (unhide CB).size
    have T2 := hide (unhide TT _ (unhide CB2))
    clear o2 b2 T1 TT c0 c1 CB B1 X1
    go_wp2_with fail
    refine (unhide T2).mono ?_
    rintro e w3 ⟨v3, rfl, o3, b3⟩
    have B3 := hide ((unhide B2).trans (b3.mono (unhide B2).size))
    have x3 := Below.stay b3 (unhide X2)
    have X3 := hide x3
    have o23 := (unhide O2).below b3
    obtain ⟨a2, p2, rfl, f2, l2, _⟩ := o23.slice
    obtain ⟨a3, p3, rfl, f3, l3, _⟩ := o3.slice
    have k2 : Hid (∀ a, a2 = some a → a.block ≠ w.heap.size + 1) := fun a ha => by
      have := o23.blk a ha
      have := unhide S1
      have := unhide SW
      omega
    have k3 : Hid (∀ a, a3 = some a → a.block ≠ w.heap.size + 1) := fun a ha => by
      have := o3.blk a ha
      have := (unhide CB2).size
      have := unhide SW
      omega
    have F2 := hide f2
    have F3 := hide f3
    have L2 := hide l2
    have L3 := hide l3
    obtain ⟨d0, d1⟩ := two_cells x3
    obtain ⟨g0, g1⟩ := two_free x3
    clear o3 o23 O2 b3 T2 x3 f2 f3 l2 l3 X2
    go_wp2
    obtain ⟨r0, r1, rb, rk⟩ := two_end (a := .slice a2 new.length p2) (b := .slice a3 to'.length p3) (unhide X3) (Nat.le_succ _) (unhide B3)
    refine bodyPost_ret (v := .tuple #[.agg #[.slice a2 new.length p2, .slice a3 to'.length p3], .int .i64 0]) (by simp [results, Tryz.results233, go_sem, r0, r1]) rfl ⟨_, rfl, ?_, rb⟩
    exact ⟨_, _, _, _, _, _, rfl, rfl, unhide L2, (unhide F2).other rk (unhide k2), rfl, unhide L3, (unhide F3).other rk (unhide k3)⟩
  · have hz' : ((r : Int) != 0) = true := by rw [bne_iff_ne]; omega
    obtain ⟨rfl, rfl⟩ := (unhide HE).2 hz
    obtain ⟨d0, d1⟩ := two_cells (unhide X1)
    obtain ⟨g0, g1⟩ := two_free (unhide X1)
    clear HE hz TW TT
    go_wp2
    obtain ⟨r0, r1, rb, rk⟩ := two_end (a := .slice none 0 0) (b := .slice none 0 0) (unhide X1) (Nat.le_succ _) (unhide B1)
    exact bodyPost_ret (v := .tuple #[.agg #[.slice none 0 0, .slice none 0 0], .int .i64 r]) (by simp [results, Tryz.results233, go_sem, r0, r1]) rfl ⟨_, rfl, Cf.nil _, rb⟩
end Go.Proofs.YtjplhiflemmkfaaGreatDoor.Hh
namespace Go.Proofs.YtjplhiflemmkfaaGreatDoor.Hh
open Go.RowKit

def leaveOf (old : List Int) : Nat := if old = [] then 2 else 0
def leaveN (old new : List Int) : List Int := if old = [] then [] else new
theorem leave_none {old : List Int} {no : Nat} (h : old.length = no) (h0 : decide (0 < no) = false) (new : List Int) : 2 = leaveOf old ∧ [] = leaveN old new := by
  have : old = [] := List.eq_nil_of_length_eq_zero (by simp at h0; omega)
  subst this; exact ⟨rfl, rfl⟩
theorem leave_joint {old : List Int} {no : Nat} (h : old.length = no) (h0 : decide (0 < no) = true) (new : List Int) : 0 = leaveOf old ∧ new = leaveN old new := by
  have : old ≠ [] := by intro e; subst e; simp at h; subst h; simp at h0
  unfold leaveOf leaveN
  rw [if_neg this, if_neg this]; exact ⟨rfl, rfl⟩

set_option maxHeartbeats 1000000 in
theorem leave_any (ao an : Option Addr) (no nn co cn : Nat) (old new : List Int) (hno : old.length = no) (hnn : new.length = nn) (hln : nn ≤ 1000000) (w : World) (hw : IntsR w an new) :
    Calls Tryz.prog 231 #[.agg #[.slice ao no co, .slice an nn cn]] w fun e w' => ∃ v, e = .returned (.tuple #[v, .int .i64 ((leaveOf old : Nat) : Int)]) ∧ Cf w' v [] (leaveN old new) ∧ Below w.heap.size w w' := by
  obtain ⟨W0, hW0, bW0, xW0, sW0⟩ := boxed w (.slice ao no co) (.slice an nn cn)
  obtain ⟨W, hW, bW1, xW1, sW1⟩ := boxed W0 (.slice none 0 0) (.slice none 0 0)
  have bW := bW0.trans (bW1.mono bW0.size)
  have JO := hide (joint_any (.slice ao no co) (.slice an nn cn) ao no co rfl W)
  have TW := hide (fun (Y : World) (h : Below W.heap.size W Y) => twin_any an nn cn new hnn Y ((hw.below bW).below h) (by omega))
  obtain ⟨j, hj⟩ : ∃ j, decide (0 < no) = j := ⟨_, rfl⟩
  obtain ⟨r, hr⟩ : ∃ r, leaveOf old = r := ⟨_, rfl⟩
  obtain ⟨en, hen⟩ : ∃ en, leaveN old new = en := ⟨_, rfl⟩
  have HE : Hid ((j = false → 2 = r ∧ [] = en) ∧ (j = true → 0 = r ∧ new = en)) := by
    rw [← hen, ← hr]
    exact ⟨fun h => leave_none hno (hj.trans h) new, fun h => leave_joint hno (hj.trans h) new⟩
  rw [hj] at JO
  rw [hr, hen]
  have HW : Hid ((w.alloc (.cells #[.slice ao no co, .slice an nn cn] 26)).alloc (.cells #[.slice none 0 0, .slice none 0 0] 26) = W) := by rw [hW0]; exact hW
  have BW := hide bW
  have XA := hide (Below.stay bW1 xW0)
  have SW : Hid (W.heap.size = w.heap.size + 1 + 1) := by show _ = _; rw [sW1, sW0]
  rw [sW0] at xW1
  have XB := hide xW1
  clear hW bW hW0 bW0 bW1 xW0 xW1 sW0 sW1 hr hj hen hw hno hnn
  go_enter Tryz.func231, Tryz.ntmps231
  go_wp2_with fail
  rw [unhide HW]
  refine (unhide JO).mono ?_
  rintro e w1 ⟨rfl, b1⟩
  have CB := hide b1
  have B1 := hide ((unhide BW).trans (b1.mono (unhide BW).size))
  obtain ⟨c0, c1⟩ := two_cells (Below.stay b1 (unhide XA))
  have X1 := hide (Below.stay b1 (unhide XB))
  clear b1 JO HW
  cases j
  · obtain ⟨rfl, rfl⟩ := (unhide HE).1 rfl
    obtain ⟨d0, d1⟩ := two_cells (unhide X1)
    obtain ⟨g0, g1⟩ := two_free (unhide X1)
    clear HE TW
    go_wp2
    obtain ⟨r0, r1, rb, rk⟩ := two_end (a := .slice none 0 0) (b := .slice none 0 0) (unhide X1) (Nat.le_succ _) (unhide B1)
    exact bodyPost_ret (v := .tuple #[.agg #[.slice none 0 0, .slice none 0 0], .int .i64 2]) (by simp [results, Tryz.results231, go_sem, r0, r1]) rfl ⟨_, rfl, Cf.nil _, rb⟩
  · obtain ⟨rfl, rfl⟩ := (unhide HE).2 rfl
    have T1 := hide (unhide TW _ (unhide CB))
    clear HE TW
    go_wp2_with fail
    refine (unhide T1).mono ?_
    rintro e w3 ⟨v3, rfl, o3, b3⟩
    have B3 := hide ((unhide B1).trans (b3.mono (unhide B1).size))
    have x3 := Below.stay b3 (unhide X1)
    have X3 := hide x3
    obtain ⟨a3, p3, rfl, f3, l3, _⟩ := o3.slice
    have k3 : Hid (∀ a, a3 = some a → a.block ≠ w.heap.size + 1) := fun a ha => by
      have := o3.blk a ha
      have := (unhide CB).size
      have := unhide SW
      omega
    have F3 := hide f3
    have L3 := hide l3
    obtain ⟨d0, d1⟩ := two_cells x3
    obtain ⟨g0, g1⟩ := two_free x3
    clear o3 b3 T1 x3 f3 l3 X1 c0 c1
    go_wp2
    obtain ⟨r0, r1, rb, rk⟩ := two_end (a := .slice none 0 0) (b := .slice a3 new.length p3) (unhide X3) (Nat.le_succ _) (unhide B3)
    refine bodyPost_ret (v := .tuple #[.agg #[.slice none 0 0, .slice a3 new.length p3], .int .i64 0]) (by simp [results, Tryz.results231, go_sem, r0, r1]) rfl ⟨_, rfl, ?_, rb⟩
    exact ⟨_, _, _, _, _, _, rfl, rfl, Nat.le_refl _, Fr.nil _, rfl, unhide L3, (unhide F3).other rk (unhide k3)⟩
end Go.Proofs.YtjplhiflemmkfaaGreatDoor.Hh
