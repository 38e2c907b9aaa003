/- cells.refuseOne, cells.refuse: contracts. -/
import Derived.Test.YtnagfoclbdlenaaGreatDoorCErr
import Derived.Test.YtnagfoclbdlenaaGreatDoorCParse
namespace Go.Proofs.YtnagfoclbdlenaaGreatDoor
open Go.RowKit Go.Maps

theorem zeroInt (w : World) : (zeroValue 3).run Tryz.prog w = .ok (.int .i64 0) w := by kernel_rfl
/-- block b is a map whose keys s tells. -/
def Pl (base : Nat) (w : World) (b : Nat) (s : Int → Bool) (c : Nat) : Prop :=
  base ≤ b ∧ ∃ D : DataW Value, w.ownsMap Tryz.prog 3 asIs b c D ∧ ∀ x : Int, Maps.has D (.int .i64 x) = s x
theorem Pl.below {base : Nat} {w w' : World} {b : Nat} {s : Int → Bool} {c : Nat} (h : Pl base w b s c) (hb : Below w.heap.size w w') : Pl base w' b s c := by
  obtain ⟨h1, D, ho, h2⟩ := h
  have hl := ho.lt
  obtain ⟨es, cl, e1, e2⟩ := ho
  exact ⟨h1, D, ⟨es, cl, (hb.block b hl).trans e1, e2⟩, h2⟩
theorem Pl.made (base : Nat) (w : World) (hb : base ≤ w.heap.size) : Pl base (w.alloc (.map #[] 0)) w.heap.size (fun _ => false) 0 :=
  ⟨hb, .map [], World.ownsMap_made w Tryz.prog 3 asIs, fun _ => rfl⟩
theorem Pl.look {base : Nat} {w : World} {b : Nat} {s : Int → Bool} {c : Nat} (h : Pl base w b s c) {x : Int} (hx : wf64 x) :
    ∃ v, (Instr.lookup 101 (.map (some b)) (.int .i64 x) true).run Tryz.prog w = .ok (.tuple #[v, .bool (s x)]) w := by
  obtain ⟨h1, D, ho, h2⟩ := h
  obtain ⟨v, ps, r1, r2⟩ := ho.look_ok keyed Tryz.underlying101 (zeroInt w) (zd := .held (.int .i64 0)) (zp := []) rfl (keyOf_int_mk Tryz.underlying3 hx)
  exact ⟨v, by rw [r1, h2]⟩
def seeing (s : Int → Bool) (x y : Int) : Bool := if y = x then true else s y
theorem Pl.store {base : Nat} {w : World} {b : Nat} {s : Int → Bool} {c : Nat} (h : Pl base w b s c) {x : Int} (hx : 0 ≤ x ∧ x < 8) (hc : c < 1000000) (v : Value) :
    ∃ w', (Instr.mapUpdate 101 (.map (some b)) (.int .i64 x) v).run Tryz.prog w = .ok () w' ∧ Pl base w' b (seeing s x) (c + 1) ∧ w.grownBy w' (some b) := by
  obtain ⟨h1, D, ho, h2⟩ := h
  obtain ⟨w', r1, r2, r3⟩ := ho.update keyed Tryz.underlying101 (by unfold maxLen; omega) (keyOf_int_mk Tryz.underlying3 (wf_small64 (by omega : -1000000 ≤ x ∧ x ≤ 1000000))) (val := v) rfl
  have hm := ho.isMap
  refine ⟨w', r1, ⟨h1, _, r2, fun y => ?_⟩, r3⟩
  unfold seeing
  by_cases e : y = x
  · rw [if_pos e, e]; exact has_put_same hm (by simp [WideAt.IsKeyLit]) _
  · rw [if_neg e, has_put_other (by simpa using e)]; exact h2 y

/-- what is wrong with one cell; with a row. -/
def oneOf (s : Int → Bool) (n : Int) (m : Nat) : Nat := if ¬ (0 ≤ n ∧ n < 8) then 1 else if s n = true then 1 else if 12000 < m then 5 else 0
def errV (c : Nat) : Value := if c = 0 then .nilIface else .iface 26 (.int .i64 (c : Int))
theorem errV_none : errV 0 = .nilIface := rfl
theorem errV_one : errV 1 = .iface 26 (.int .i64 1) := rfl
theorem errV_five : errV 5 = .iface 26 (.int .i64 5) := rfl
theorem oneOf_cases (s : Int → Bool) (n : Int) (m : Nat) : oneOf s n m = 0 ∨ oneOf s n m = 1 ∨ oneOf s n m = 5 := by
  unfold oneOf
  repeat' split
  all_goals simp
def refuseOf (s : Int → Bool) : List (Int × List Nat) → Nat
  | [] => 0
  | c :: r => if oneOf s c.1 c.2.length = 0 then refuseOf (seeing s c.1) r else oneOf s c.1 c.2.length

set_option maxRecDepth 20000 in
set_option maxHeartbeats 400000 in
theorem refuseOne_any {base b c : Nat} {s : Int → Bool} (n : Int) (hn : wf64 n) (r : Option Addr) (m cx : Nat) (w : World) (h : Pl base w b s c) :
    Calls Tryz.prog 51 #[.agg #[.int .i64 n, .slice r m cx], .map (some b)] w fun e w' => e = .returned (errV (oneOf s n m)) ∧ Below w.heap.size w w' := by
  obtain ⟨W, hW⟩ : ∃ W, w.alloc (.cells #[.int .i64 n, .slice r m cx] 40) = W := ⟨_, rfl⟩
  have bW : Below w.heap.size w W := by rw [← hW]; exact (Below.refl _ w).alloc (Nat.le_refl _) _
  have xW : W.heap[w.heap.size]? = some (.cells #[.int .i64 n, .slice r m cx] 40 (0, 0)) := by rw [← hW]; exact heap_alloc_new _ _
  have c0 : W.cell? ⟨w.heap.size, 0, none⟩ = some (.int .i64 n) := (cell_of_block xW).trans rfl
  have c1 : W.cell? ⟨w.heap.size, 1, none⟩ = some (.slice r m cx) := (cell_of_block xW).trans rfl
  obtain ⟨v, lk⟩ := (h.below bW).look hn
  have IC := hide (fun w0 => isCell_any n w0)
  have HW := hide hW
  have BW := hide bW
  clear hW bW xW h hn
  by_cases h1 : 0 ≤ n ∧ n < 8
  · have e1 : decide (0 ≤ n ∧ n < 8) = true := decide_eq_true h1
    rw [e1] at IC
    cases hs : s n with
    | true =>
      rw [hs] at lk
      have e2 : oneOf s n m = 1 := by simp [oneOf, h1, hs]
      rw [e2]
      clear e2 e1 h1 hs
      go_enter Tryz.func51, Tryz.ntmps51
      go_upto_region 1 with fail
      rw [unhide HW]
      go_wp2_with (go_at_call 37; refine (unhide IC _).mono ?_; rintro e wq ⟨rfl, hw⟩; replace hw := hw.symm; subst hw)
      go_ret
      exact ⟨rfl, unhide BW⟩
    | false =>
      rw [hs] at lk
      by_cases hm : 12000 < m
      · have e2 : oneOf s n m = 5 := by simp [oneOf, h1, hs, hm]
        rw [e2]
        have hmI : (12000 : Int) < (m : Int) := by omega
        clear e2 e1 h1 hs
        go_enter Tryz.func51, Tryz.ntmps51
        go_upto_region 1 with fail
        rw [unhide HW]
        go_wp2_with (go_at_call 37; refine (unhide IC _).mono ?_; rintro e wq ⟨rfl, hw⟩; replace hw := hw.symm; subst hw)
        go_ret
        exact ⟨rfl, unhide BW⟩
      · have e2 : oneOf s n m = 0 := by simp [oneOf, h1, hs]; omega
        rw [e2]
        have hmI : ¬ (12000 : Int) < (m : Int) := by omega
        clear e2 e1 h1 hs
        go_enter Tryz.func51, Tryz.ntmps51
        go_upto_region 1 with fail
        rw [unhide HW]
        go_wp2_with (go_at_call 37; refine (unhide IC _).mono ?_; rintro e wq ⟨rfl, hw⟩; replace hw := hw.symm; subst hw)
        go_ret
        exact ⟨rfl, unhide BW⟩
  · have e1 : decide (0 ≤ n ∧ n < 8) = false := decide_eq_false h1
    rw [e1] at IC
    have e2 : oneOf s n m = 1 := by simp only [oneOf]; rw [if_pos h1]
    rw [e2]
    clear e2 e1 h1
    go_enter Tryz.func51, Tryz.ntmps51
    go_upto_region 1 with fail
    rw [unhide HW]
    go_wp2_with (go_at_call 37; refine (unhide IC _).mono ?_; rintro e wq ⟨rfl, hw⟩; replace hw := hw.symm; subst hw)
    go_ret
    exact ⟨rfl, unhide BW⟩

/-- the numbers of cells. -/
def seenOf (l : List (Int × List Nat)) : Int → Bool := l.foldl (fun s c => seeing s c.1) (fun _ => false)
theorem seenOf_snoc (l : List (Int × List Nat)) (c : Int × List Nat) : seenOf (l ++ [c]) = seeing (seenOf l) c.1 := by simp [seenOf]

set_option maxRecDepth 20000 in
set_option maxHeartbeats 1000000 in
theorem refuse_any (ao : Option Addr) (n cap : Nat) (l : List (Int × List Nat)) (hn : l.length = n) (hn8 : n ≤ 1000) (w : World) (hl : CAt w ao l) (hk : ∀ c ∈ l, wf64 c.1) :
    Calls Tryz.prog 40 #[.slice ao n cap] w fun e w' => ∃ ev, e = .returned ev ∧ ErrC w' ev (refuseOf (fun _ => false) l) ∧ Below w.heap.size w w' := by
  have HL := hide hl
  have HN := hide hn
  have HK := hide hk
  have hmm := @run_makeMap Tryz.prog
  obtain ⟨W, hW⟩ : ∃ W, w.alloc (.map #[] 0) = W := ⟨_, rfl⟩
  have bW : Below w.heap.size w W := by rw [← hW]; exact (Below.refl _ w).alloc (Nat.le_refl _) _
  have pW : Pl w.heap.size W w.heap.size (fun _ => false) 0 := by rw [← hW]; exact Pl.made _ w (Nat.le_refl _)
  have HW := hide hW
  have BW := hide bW
  have PW := hide pW
  obtain ⟨R, hR⟩ : ∃ R, refuseOf (fun _ => false) l = R := ⟨_, rfl⟩
  rw [hR]
  have HR := hide hR
  clear hl hn hk hW bW pW hR
  go_enter Tryz.func40, Tryz.ntmps40
  go_upto_region 2 with fail
  rw [unhide HW]
  go_upto_region 3 with fail
  go_loopg [10] n (fun gg iv wr => ∃ (k : Nat), k + gg = n ∧ iv = .int .i64 (k : Int) ∧ Pl w.heap.size wr w.heap.size (seenOf (l.take k)) k ∧ refuseOf (seenOf (l.take k)) (l.drop k) = R ∧ Below w.heap.size w wr)
  case atStart => exact ⟨0, by omega, rfl, unhide PW, unhide HR, unhide BW⟩
  case round =>
    obtain ⟨k, hgk, rfl, hpl, hre, hlow⟩ := hrel
    have hsz := hlow.size
    by_cases hlt : k < n
    · obtain ⟨cc, hcc⟩ : ∃ cc, l[k]? = some cc := ⟨_, List.getElem?_eq_getElem (by rw [unhide HN]; exact hlt)⟩
      obtain ⟨x, bs⟩ := cc
      have hkI : (k : Int) < (n : Int) := by omega
      have hx : wf64 x := unhide HK _ (List.mem_of_getElem? hcc)
      obtain ⟨blk, off, r, cx, rfl, c1, c2, hby, hrn, hbc⟩ := ((unhide HL).below hlow) k x bs hcc
      obtain ⟨m, hm⟩ : ∃ m, bs.length = m := ⟨_, rfl⟩
      rw [hm] at c2
      obtain ⟨V, hV⟩ : ∃ V, wr.alloc (.cells #[.int .i64 x, .slice r m cx] 40) = V := ⟨_, rfl⟩
      have bV : Below wr.heap.size wr V := by rw [← hV]; exact (Below.refl _ wr).alloc (Nat.le_refl _) _
      have vC : V.heap[wr.heap.size]? = some (.cells #[.int .i64 x, .slice r m cx] 40 (0, 0)) := by rw [← hV]; exact heap_alloc_new _ _
      obtain ⟨C, hC⟩ : ∃ C, wr.heap.size = C := ⟨_, rfl⟩
      rw [hC] at vC
      have v0 : V.cell? ⟨C, 0, none⟩ = some (.int .i64 x) := (cell_of_block vC).trans rfl
      have v1 : V.cell? ⟨C, 1, none⟩ = some (.slice r m cx) := (cell_of_block vC).trans rfl
      have hdr : l.drop k = (x, bs) :: l.drop (k + 1) := by
        have hkl : k < l.length := by rw [unhide HN]; exact hlt
        rw [List.drop_eq_getElem_cons hkl]
        rw [List.getElem?_eq_getElem hkl] at hcc
        simp only [Option.some.injEq] at hcc
        rw [hcc]
      rw [hdr] at hre
      simp only [refuseOf, hm] at hre
      have HTK : Hid (seenOf (l.take (k + 1)) = seeing (seenOf (l.take k)) x) := by
        show _ = _
        rw [List.take_add_one, hcc]
        exact seenOf_snoc (l.take k) (x, bs)
      have plV := hpl.below bV
      have RO := hide (refuseOne_any x hx r m cx V plV)
      have sV := bV.size
      have PV := hide plV
      have LV := hide (hlow.trans (bV.mono hsz))
      have HV := hide hV
      have HC := hide hC
      have HG := hide hgk
      have XC := hide vC
      have hCw : w.heap.size < C := by rw [← hC]; obtain ⟨_, D, ho, _⟩ := hpl; exact ho.lt
      clear hpl hlow hV hC hgk hcc hdr bV plV vC hby hrn hbc hm
      go_upto_region 5 with fail
      rw [unhide HV, unhide HC]
      clear HV HC c1 c2
      go_wp2_with fail
      refine (unhide RO).mono ?_
      rintro e w3 ⟨rfl, b3⟩
      have P3 := hide ((unhide PV).below b3)
      have L3 := hide ((unhide LV).trans (b3.mono (by omega)))
      have x3 := (b3.block _ (blk_lt' (unhide XC))).trans (unhide XC)
      have y0 : w3.cell? ⟨C, 0, none⟩ = some (.int .i64 x) := (cell_of_block x3).trans rfl
      have s3 := b3.size
      clear b3 x3 RO PV LV XC v0 v1
      by_cases h0 : oneOf (seenOf (l.take k)) x m = 0
      · rw [if_pos h0] at hre
        rw [h0, errV_none]
        have hx8 : 0 ≤ x ∧ x < 8 := by
          unfold oneOf at h0
          by_cases h1 : 0 ≤ x ∧ x < 8
          · exact h1
          · rw [if_pos h1] at h0; omega
        obtain ⟨w4, r4, p4, g4⟩ := (unhide P3).store hx8 (by omega) (.int .i64 (k : Int))
        have FIN : Hid (Pl w.heap.size w4 w.heap.size (seenOf (l.take (k + 1))) (k + 1) ∧ refuseOf (seenOf (l.take (k + 1))) (l.drop (k + 1)) = R ∧ Below w.heap.size w w4) := by
          rw [unhide HTK]
          exact ⟨p4, hre, (unhide L3).grown g4 (by omega) (fun j hj => by simp only [Option.some.injEq] at hj; omega)⟩
        clear p4 g4 hre P3 L3 h0
        go_wp2
        go_roundg (n - (k + 1))
        case measure => have := unhide HG; omega
        case rel => exact ⟨k + 1, by omega, by go_num, unhide FIN⟩
      · rw [if_neg h0] at hre
        rcases oneOf_cases (seenOf (l.take k)) x m with h1 | h1 | h1
        · exact absurd h1 h0
        · rw [h1] at hre
          rw [h1, errV_one]
          obtain ⟨W4, hW4⟩ : ∃ W4, w3.alloc (.cells #[.int .i64 (k : Int), .iface 26 (.int .i64 1)] 105) = W4 := ⟨_, rfl⟩
          have b4 : Below w3.heap.size w3 W4 := by rw [← hW4]; exact (Below.refl _ w3).alloc (Nat.le_refl _) _
          have FIN : Hid (Rf W4 w3.heap.size 1 ∧ Below w.heap.size w W4) := ⟨by rw [← hW4]; exact (cell_of_block (heap_alloc_new w3 _)).trans rfl, (unhide L3).trans (b4.mono (by omega))⟩
          have HW4 := hide hW4
          have HRE := hide hre.symm
          clear b4 hW4 hre P3 L3 h0 h1
          go_wp2
          go_ret
          rw [unhide HW4]
          exact ⟨_, rfl, Or.inr (Or.inr (Or.inr (Or.inl ⟨unhide HRE, _, rfl, (unhide FIN).1⟩))), (unhide FIN).2⟩
        · rw [h1] at hre
          rw [h1, errV_five]
          obtain ⟨W4, hW4⟩ : ∃ W4, w3.alloc (.cells #[.int .i64 (k : Int), .iface 26 (.int .i64 5)] 105) = W4 := ⟨_, rfl⟩
          have b4 : Below w3.heap.size w3 W4 := by rw [← hW4]; exact (Below.refl _ w3).alloc (Nat.le_refl _) _
          have FIN : Hid (Rf W4 w3.heap.size 5 ∧ Below w.heap.size w W4) := ⟨by rw [← hW4]; exact (cell_of_block (heap_alloc_new w3 _)).trans rfl, (unhide L3).trans (b4.mono (by omega))⟩
          have HW4 := hide hW4
          have HRE := hide hre.symm
          clear b4 hW4 hre P3 L3 h0 h1
          go_wp2
          go_ret
          rw [unhide HW4]
          exact ⟨_, rfl, Or.inr (Or.inr (Or.inr (Or.inr ⟨unhide HRE, _, rfl, (unhide FIN).1⟩))), (unhide FIN).2⟩
    · have hk : k = n := by omega
      have hkI : ¬ (k : Int) < (n : Int) := by omega
      have hz : R = 0 := by
        rw [← hre, List.drop_eq_nil_of_le (by rw [unhide HN]; omega)]; rfl
      have HZ := hide hz
      have HLO := hide hlow
      clear hre hlow hgk hk hz hpl HR
      go_wp2
      go_ret
      exact ⟨_, rfl, Or.inl ⟨unhide HZ, rfl⟩, unhide HLO⟩
end Go.Proofs.YtnagfoclbdlenaaGreatDoor
