/- cells.set: a contract. -/
import Derived.Test.YtnagfoclbdlenaaGreatDoorCRecs
import Derived.Deep.RegionHeldLaw
namespace Go.Proofs.YtnagfoclbdlenaaGreatDoor
open Go.RowKit Go.Maps

theorem heap_cell {w w' : World} {a : Addr} (h : w'.heap[a.block]? = w.heap[a.block]?) : w'.cell? a = w.cell? a := by simp only [World.cell?, h]
theorem not_map {w : World} {a : Addr} {u : Value} {b : Nat} {es : Array MapEntry} {cl : Nat} (hm : w.heap[b]? = some (.map es cl)) (h : w.cell? a = some u) : a.block ≠ b := fun e => by
  simp [World.cell?, e, hm] at h
theorem CAt.kept {w w' : World} {base b : Nat} {ao : Option Addr} {l : List (Int × List Nat)} {es : Array MapEntry} {cl : Nat} (h : CAt w ao l) (hm : w.heap[b]? = some (.map es cl)) (hk : Kept base (fun k => k = b) w w') : CAt w' ao l := fun i n bs hi => by
  have key : ∀ (a : Addr) (u : Value), w.cell? a = some u → w'.cell? a = some u := fun a u hc => by
    rw [heap_cell (hk.2 a.block (blk_lt hc) (not_map hm hc))]; exact hc
  obtain ⟨blk, off, r, cx, e, c1, c2, hby, r1⟩ := h i n bs hi
  refine ⟨blk, off, r, cx, e, key _ _ c1, key _ _ c2, ⟨hby.1, fun j hj => ?_⟩, r1⟩
  obtain ⟨a, ea, ca⟩ := hby.2 j hj
  exact ⟨a, ea, key _ _ ca⟩
theorem Kept.grew {w w' : World} {base b : Nat} (hb : base ≤ b) (h : w.grownBy w' (some b)) (hs : base ≤ w.heap.size) : Kept base (fun k => k = b) w w' :=
  ⟨(Below.refl _ w).grown h hs (fun k hk => by simp only [Option.some.injEq] at hk; omega), fun k hk hn => h.block k hk (by simpa using hn)⟩
theorem Hv.map {base : Nat} {w : World} {b : Nat} {f : Int → List Nat} {c : Nat} (h : Hv base w b f c) : ∃ es cl, w.heap[b]? = some (.map es cl) := by
  obtain ⟨_, D, ⟨es, cl, e, _⟩, _⟩ := h; exact ⟨es, cl, e⟩

/-- delete(m, x), at the operation. -/
theorem wpList_drop_hv {w : World} {ops : Array Oper} {rest : List Oper} {o : Oper} {a : Act} {Q : Exit → Act → World → Prop} (hg : o.guard = none) (m x : Operand) (hop : o.op = Op.call { callee := Callee.builtin Builtin.delete, args := #[m, x], argTypes := #[62, 3] })
    {base b c : Nat} {f : Int → List Nat} (hm : a.eval m = .map (some b)) (h : Hv base w b f c) (X : Int) (hX : wf64 X) (hx : a.eval x = .int .i64 X)
    (hK : ∀ w', Hv base w' b (upF f X []) c → w.grownBy w' (some b) → wpList Tryz.prog ops Q rest (a.put o.dst (.tuple #[])) w') : wpList Tryz.prog ops Q (o :: rest) a w := by
  refine wpList_plain hg fun K' hK' => ?_
  obtain ⟨w', hrun, r1, r2⟩ := h.drop hX o.type
  unfold Oper.wp
  simp [execOp, hop, resolve, invoke, builtin, hm, hx, hrun, Result.andThen]
  exact hK' _ _ (hK w' r1 r2)

/-- what cells make of a map. -/
def setF (f : Int → List Nat) (l : List (Int × List Nat)) : Int → List Nat := l.foldl (fun f c => upF f c.1 c.2) f
theorem setF_snoc (f : Int → List Nat) (l : List (Int × List Nat)) (c : Int × List Nat) : setF f (l ++ [c]) = upF (setF f l) c.1 c.2 := by simp [setF]

set_option maxRecDepth 20000 in
set_option maxHeartbeats 1000000 in
theorem set_any {base b c : Nat} {f : Int → List Nat} (ao : Option Addr) (n cap : Nat) (l : List (Int × List Nat)) (hn : l.length = n) (hn8 : n ≤ 1000) (w : World) (h : Hv base w b f c) (hc : c ≤ 900000) (hb : base ≤ w.heap.size) (hl : CAt w ao l) (hk : ∀ c ∈ l, (0 ≤ c.1 ∧ c.1 < 8) ∧ c.2.length ≤ 1000000) :
    Calls Tryz.prog 25 #[.map (some b), .slice ao n cap] w fun e w' => e = .returned (.tuple #[]) ∧ Hv base w' b (setF f l) (c + n) ∧ Kept base (fun k => k = b) w w' := by
  have HL := hide hl
  have HN := hide hn
  have HK := hide hk
  have HH := hide h
  clear hl hn hk h
  go_enter Tryz.func25, Tryz.ntmps25
  go_upto_region 1 with fail
  go_loopg [8] n (fun gg iv wr => ∃ (k : Nat), k + gg = n ∧ iv = .int .i64 (k : Int) ∧ Hv base wr b (setF f (l.take k)) (c + k) ∧ Kept base (fun k => k = b) w wr)
  case atStart => exact ⟨0, by omega, rfl, unhide HH, Kept.refl _ _ _⟩
  case round =>
    obtain ⟨k, hgk, rfl, hv, hlow⟩ := hrel
    have hsz := hlow.size
    by_cases hlt : k < n
    · obtain ⟨cc, hcc⟩ : ∃ cc, l[k]? = some cc := ⟨_, List.getElem?_eq_getElem (by rw [unhide HN]; exact hlt)⟩
      obtain ⟨x, bs⟩ := cc
      have hkI : (k : Int) < (n : Int) := by omega
      obtain ⟨hx8, hbl⟩ := unhide HK _ (List.mem_of_getElem? hcc)
      simp only at hx8 hbl
      obtain ⟨es, cl, hmap⟩ := (unhide HH).map
      obtain ⟨blk, off, r, cx, rfl, c1, c2, hby, hrn, hbc⟩ := ((unhide HL).kept hmap hlow) k x bs hcc
      obtain ⟨m, hm⟩ : ∃ m, bs.length = m := ⟨_, rfl⟩
      rw [hm] at c2 hbc
      have hbl' : m ≤ 1000000 := by rw [← hm]; exact hbl
      obtain ⟨V, hV⟩ : ∃ V, wr.alloc (.cells #[.int .i64 x, .slice r m cx] 40) = V := ⟨_, rfl⟩
      have bV : Below wr.heap.size wr V := by rw [← hV]; exact (Below.refl _ wr).alloc (Nat.le_refl _) _
      have vC : V.heap[wr.heap.size]? = some (.cells #[.int .i64 x, .slice r m cx] 40 (0, 0)) := by rw [← hV]; exact heap_alloc_new _ _
      obtain ⟨C, hC⟩ : ∃ C, wr.heap.size = C := ⟨_, rfl⟩
      rw [hC] at vC
      have v0 : V.cell? ⟨C, 0, none⟩ = some (.int .i64 x) := (cell_of_block vC).trans rfl
      have v1 : V.cell? ⟨C, 1, none⟩ = some (.slice r m cx) := (cell_of_block vC).trans rfl
      have sV := bV.size
      have hvV := hv.below bV
      have loV := hlow.trans (g := fun k => k = b) (Kept.of_below bV (by omega : base ≤ wr.heap.size)) (fun _ _ e => e)
      have HTK : Hid (setF f (l.take (k + 1)) = upF (setF f (l.take k)) x bs) := by
        show _ = _
        rw [List.take_add_one, hcc]
        exact setF_snoc f (l.take k) (x, bs)
      have HV := hide hV
      have HC := hide hC
      have HG := hide hgk
      have HHV := hide hvV
      have HLO := hide loV
      have hb2 : base ≤ V.heap.size := by omega
      have hc2 : c + k < 1000000 := by omega
      by_cases hm0 : m = 0
      · subst hm0
        obtain rfl : bs = [] := List.eq_nil_of_length_eq_zero hm
        clear hm hvV loV hby hrn hbc hv hlow hV hC hgk hcc vC bV hmap
        go_upto_region 3 with fail
        rw [unhide HV, unhide HC]
        clear HV HC c1 c2
        go_wp2_with (at_delete
                     refine wpList_drop_hv rfl (.tmp 16) (.tmp 18) rfl rfl (unhide HHV) x (wf_small64 (by omega : -1000000 ≤ x ∧ x ≤ 1000000)) rfl ?_
                     intro w5 h5 g5
                     have H5 := hide h5
                     have G5 := hide g5
                     clear h5 g5)
        have FIN : Hid (Hv base w5 b (setF f (l.take (k + 1))) (c + (k + 1)) ∧ Kept base (fun k => k = b) w w5) := by
          rw [unhide HTK]
          exact ⟨(unhide H5).mono (by omega), (unhide HLO).trans (g := fun k => k = b) (Kept.grew (unhide HHV).1 (unhide G5) hb2) (fun _ _ e => e)⟩
        clear H5 G5 HHV HLO v0 v1
        go_wp2
        go_roundg (n - (k + 1))
        case measure => have := unhide HG; omega
        case rel => exact ⟨k + 1, by omega, by go_num, unhide FIN⟩
      · have hne : bs ≠ [] := fun e => hm0 (by rw [← hm, e]; rfl)
        obtain ⟨aa, rfl⟩ : ∃ aa, r = some aa := by
          cases r with
          | some aa => exact ⟨aa, rfl⟩
          | none => exact absurd (by have := hrn rfl; omega) hm0
        have by1 : Bytes V.drew (some aa) bs := (hby.below bV).below (drew_below V)
        have CL := hide (clone_some aa m cx bs hm V.drew by1 (by omega))
        have hvD := hvV.below (drew_below V)
        have HHD := hide hvD
        have hmI : ¬ (m : Int) = 0 := by omega
        have SX : Hid (∀ X : World, X.heap[C]? = some (.cells #[.int .i64 x, .slice (some aa) m cx] 40 (0, 0)) → X.cell? ⟨C, 0, none⟩ = some (.int .i64 x) ∧ X.cell? ⟨C, 1, none⟩ = some (.slice (some aa) m cx)) := fun X h => ⟨(cell_of_block h).trans rfl, (cell_of_block h).trans rfl⟩
        have X0 := hide vC
        have hCb : b < C := by rw [← hC]; exact hv.lt
        have HNE := hide hne
        have HM0 := hide hm0
        clear hm hvV loV hby hrn hbc hv hlow hV hC hgk hcc vC bV hmap by1 hvD hne hm0
        go_upto_region 3 with fail
        rw [unhide HV, unhide HC]
        clear HV HC c1 c2
        go_wp2_with fail
        go_region_held_law (fun X => X.cell? ⟨C, 0, none⟩ = some (.int .i64 x) ∧ X.cell? ⟨C, 1, none⟩ = some (.slice (some aa) m cx))
          (first | exact (unhide SX) _ (unhide X5) | exact (unhide SX) _ (unhide X4) | exact (unhide SX) _ (unhide X0))
          ((go_at_call 33
            refine (unhide CL).mono ?_
            rintro e w4 ⟨dv, rfl, od, b4⟩
            obtain ⟨w5, r5, h5, g5⟩ := ((unhide HHD).below b4).store hx8 hc2 (od.rebase hb2) (unhide HNE)
            have X4 := hide ((b4.block _ (blk_lt' (unhide X0))).trans (unhide X0))
            have X5 := hide ((g5.block _ (blk_lt' (unhide X4)) (by simp; omega)).trans (unhide X4))
            have FIN : Hid (Hv base w5 b (setF f (l.take (k + 1))) (c + (k + 1)) ∧ Kept base (fun k => k = b) w w5) := by
              rw [unhide HTK]
              have k4 := ((unhide HLO).drew).trans (g := fun k => k = b) (Kept.of_below b4 hb2) (fun _ _ e => e)
              exact ⟨h5, k4.trans (g := fun k => k = b) (Kept.grew (unhide HHV).1 g5 (Nat.le_trans hb2 b4.size)) (fun _ _ e => e)⟩
            clear od b4 h5 g5 CL))
        all_goals go_wp2
        all_goals go_roundg (n - (k + 1))
        case measure => have := unhide HG; omega
        case rel => exact ⟨k + 1, by omega, by go_num, unhide FIN⟩
    · have hk : k = n := by omega
      have hkI : ¬ (k : Int) < (n : Int) := by omega
      rw [hk] at hv
      rw [hk]
      have et : l.take n = l := by rw [← unhide HN, List.take_length]
      rw [et] at hv
      have HV := hide hv
      have HLO := hide hlow
      clear hv hlow et hgk hk hkI
      have hkI : ¬ (n : Int) < (n : Int) := by omega
      go_wp2
      go_end0
      exact ⟨rfl, unhide HV, unhide HLO⟩
end Go.Proofs.YtnagfoclbdlenaaGreatDoor
