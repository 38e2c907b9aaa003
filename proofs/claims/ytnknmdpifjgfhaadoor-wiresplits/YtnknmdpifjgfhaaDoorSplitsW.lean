/- The walk of WireSplits. -/
import Derived.Test.YtnknmdpifjgfhaaDoorRSplit
import Derived.BigQuiet
import Derived.Deep.QuietTactic
import Derived.Deep.RegionWith
import Derived.Deep.DeepCutAuto
import Derived.Deep.CutBlock
import Derived.Maps.AppendAt
namespace Go.Proofs.YtnknmdpifjgfhaaDoor
open Go.RowKit

def RowsArg (w : World) (ao : Option Addr) (xs : List (List Nat)) : Prop :=
  ∀ i, i < xs.length → ∃ a r cap, ao = some a ∧ w.cell? (a.add i) = some (.slice r (xs.getD i []).length cap) ∧ Bytes w r (xs.getD i []) ∧ (xs.getD i []).length ≤ cap ∧ (r = none → cap = 0)
/-- a slice's numbers. -/
def Nums (w : World) (ao : Option Addr) (xs : List Int) : Prop := ∀ i, i < xs.length → ∃ a, ao = some a ∧ w.cell? (a.add i) = some (.int .i64 (xs.getD i 0)) ∧ -9223372036854775808 ≤ xs.getD i 0 ∧ xs.getD i 0 ≤ 9223372036854775807
theorem row_shape {w : World} {base : Nat} {e : TypeId} {v : Value} {n : Nat} {xs : List Value} (h : w.ownsRow base e 1 v n xs) :
    ∃ ao cap, v = .slice ao n cap ∧ ∀ j, j < n → ∃ g, ao = some ⟨g, 0, none⟩ ∧ w.cell? ⟨g, j, none⟩ = xs[j]? := by
  rcases h.2 with ⟨rfl, rfl⟩ | ⟨g, cap, cur, rfl, _⟩
  · exact ⟨none, 0, rfl, fun j hj => by omega⟩
  · exact ⟨_, cap, rfl, fun j hj => ⟨g, rfl, h.cellAt j (by omega)⟩⟩
theorem row_len {w : World} {base : Nat} {e : TypeId} {v : Value} {n : Nat} {xs : List Value} (h : w.ownsRow base e 1 v n xs) : n ≤ 9223372036854775807 := by
  rcases h.2 with ⟨_, rfl⟩ | ⟨_, cap, _, _, _, _, h1, h2, _⟩
  · omega
  · unfold maxLen at h2; omega
theorem u8s_append (a b : List Nat) : u8s (a ++ b) = u8s a ++ u8s b := by simp [u8s]
theorem own_empty (base : Nat) (w : World) (h : base ≤ w.heap.size) : Own base (w.alloc (.cells #[] 5)) (.slice (some ⟨w.heap.size, 0, none⟩) 0 0) [] :=
  ⟨World.ownsRow_made w #[] 0 h (by decide) rfl, by simp⟩

/-- append onto a row of the call's own, the source bytes that may be nil. -/
theorem wpList_append_bytes {w : World} {ops : Array Oper} {rest : List Oper} {o : Oper} {a : Act} {Q : Exit → Act → World → Prop} (hgd : o.guard = none) (s x : Operand)
    (ho : o.op = .call { callee := .builtin .append, args := #[s, x], argTypes := #[27, 27] }) (base : Nat) (v : Value) (xs : List Nat) (nx : Nat) (hnx : xs.length = nx) (hs : a.eval s = v) (hown : Own base w v xs)
    (ao : Option Addr) (m c : Nat) (bs : List Nat) (hx : a.eval x = .slice ao m c) (hm : bs.length = m) (hby : Bytes w ao bs) (hc : ao = none → c = 0) (hl : nx + m ≤ 1000000000000) (hb : base ≤ w.heap.size)
    (h : ∀ ao' cap' w', Own base w' (.slice ao' (nx + m) cap') (xs ++ bs) → Below base w w' → (∀ k, k < w.heap.size → v.ownBlock ≠ some k → w'.heap[k]? = w.heap[k]?) → wpList Tryd.prog ops Q rest (a.put o.dst (.slice ao' (nx + m) cap')) w') :
    wpList Tryd.prog ops Q (o :: rest) a w := by
  obtain ⟨i0, hi, hz0, hz1, hz2⟩ := info_parts Tryd.info5
  subst hnx
  cases ao with
  | none =>
    obtain rfl := hby.none_nil
    obtain rfl := hc rfl
    obtain rfl : m = 0 := hm.symm
    obtain ⟨aov, capv, rfl, _⟩ := hown.slice
    refine wpList_append_own_none hgd s x 27 ho base 5 i0 1 Tryd.underlying27 hi _ _ _ hs hown.1 hx ?_
    exact h aov capv w (by simpa using hown) (Below.refl _ _) (fun _ _ _ => rfl)
  | some ad =>
    refine wpList_append_own _ hgd s x 27 ho base 5 i0 (.int .u8 0) 1 1 Tryd.underlying27 hi hz0 hz1 hz2 rfl (by decide) _ _ _ hs hown.1 ad m c (u8s bs) hx (by simp [u8s, hm]) hby.news (u8s_one bs) (by unfold maxLen; omega) (by omega) hb ?_
    intro v' w' own' g' _
    have o' : Own base w' v' (xs ++ bs) := by
      refine ⟨?_, ?_⟩
      · rw [List.length_append, hm, u8s_append]; exact own'
      · intro y hy
        rcases List.mem_append.1 hy with h1 | h1
        · exact hown.2 y h1
        · exact hby.1 y h1
    obtain ⟨ao', cap', rfl⟩ : ∃ ao' cap', v' = .slice ao' (xs.length + m) cap' := by
      rcases own'.2 with ⟨rfl, h0⟩ | ⟨gb, cap2, cur, rfl, _⟩
      · exact ⟨none, 0, by rw [h0]⟩
      · exact ⟨_, cap2, rfl⟩
    refine h ao' cap' w' o' ((Below.refl _ _).grown g' hb (fun k hk => (hown.1.lt k hk).1)) (fun k hk hn => ?_)
    obtain ⟨_, _, _, _, hold⟩ := g'
    exact hold k hk (fun e => hn e.symm)

theorem within_nat (n m : Int) (k : Nat) (hk : n % m = k) (w : World) (h1 : 0 < m) (h2 : m ≤ 1000000000000) :
    Calls Tryd.prog 26 #[.int .i64 n, .int .i64 m] w fun ev w' => ev = .returned (.int .i64 (k : Int)) ∧ w' = w := by
  rw [← hk]; exact within_any n m w h1 h2
theorem u8_add (x z : Nat) : IntKind.u8.wrap ((x : Int) + (z : Int)) = (((x + z) % 256 : Nat) : Int) := by
  simp [IntKind.wrap, IntKind.bits, IntKind.signed]

theorem rsplit_len (ao : Option Addr) (n cap : Nat) (bs : List Nat) (hn : bs.length = n) (w : World) (hb : Bytes w ao bs) (h1 : n ≤ cap) (h3 : n ≤ 1000000000) :
    Calls Tryd.prog 35 #[.slice ao n cap] w fun e w' => ∃ fv vs, e = .returned (.tuple #[fv, .int .i64 ((splitOf (bs.length + 1) bs).2.1 : Nat), .int .i64 ((splitOf (bs.length + 1) bs).2.2 : Nat)]) ∧
      w'.ownsRow w.heap.size 27 1 fv vs.length vs ∧ RowsOf w.heap.size w' vs (splitOf (bs.length + 1) bs).1 ∧ Below w.heap.size w w' := by
  subst hn; exact rsplit_any ao cap bs w hb h1 h3

set_option maxRecDepth 20000 in
set_option maxHeartbeats 4000000 in
theorem splits_walk (aor : Option Addr) (nr cr : Nat) (xs : List (List Nat)) (hr : xs.length = nr) (aoa : Option Addr) (na ca : Nat) (ys : List Int) (ha : ys.length = na) (aob : Option Addr) (nb cb : Nat) (bb : List Nat) (hb : bb.length = nb) (aom : Option Addr) (nm cm : Nat) (bm : List Nat) (hm : bm.length = nm)
    (w : World) (hxs : RowsArg w aor xs) (hys : Nums w aoa ys) (hyb : Bytes w aob bb) (hym : Bytes w aom bm) (hcm : aom = none → cm = 0) (hS : Start w) :
    Calls Tryd.prog 7 #[.slice aor nr cr, .slice aoa na ca, .slice aob nb cb, .slice aom nm cm] w fun e w' => e = .returned (.bool true) ∧ Below w.heap.size w w' := by
  have HR := hide hr
  have HA := hide ha
  have HB := hide hb
  have HM := hide hm
  have HXS := hide hxs
  have HYS := hide hys
  have HYB := hide hyb
  have HYM := hide hym
  have HCM := hide hcm
  have HS := hide hS
  clear hr ha hb hm hxs hys hyb hym hcm hS
  go_enter Tryd.func7, Tryd.ntmps7
  go_wp2_with fail
  refine (known_any w (unhide HS)).mono ?_
  rintro e w1 ⟨rfl, b1⟩
  have B1 := hide b1
  have s1 := b1.size
  clear b1
  go_upto_block 0 with fail
  go_cut [9] (fun bv wc => ∃ (ao : Option Addr) (m cap : Nat) (bs : List Nat), bv = .slice ao m cap ∧ bs.length = m ∧ m ≤ 1664 ∧ Own w.heap.size wc (.slice ao m cap) bs ∧ Below w.heap.size w wc)
  case first =>
    go_wp2_with fail
    go_loopg [9, 10] 8 (fun g bv iv wr => ∃ (i : Nat) (ao : Option Addr) (m cap : Nat) (bs : List Nat), i + g = 8 ∧ iv = .int .i64 (i : Int) ∧ bv = .slice ao m cap ∧ bs.length = m ∧ m ≤ 208 * i ∧ Own w.heap.size wr (.slice ao m cap) bs ∧ Below w.heap.size w wr)
    case atStart => exact ⟨0, none, 0, 0, [], rfl, rfl, rfl, rfl, Nat.zero_le _, Own.nil _ _, unhide B1⟩
    case round =>
      obtain ⟨i, ao, m, cap, bs, hig, rfl, rfl, hm, hmi, ho, br⟩ := hrel
      have HIG := hide hig
      have HMM := hide hm
      have OW := hide ho
      have BR := hide br
      have sr := br.size
      have hi8 : i ≤ 8 := by omega
      clear hig hm ho br B1
      by_cases h1 : i < nr
      · by_cases h2 : i < 8
        · obtain ⟨ad, r, cx, rfl, hc, hby, hcx, hnx⟩ := unhide HXS i (by rw [unhide HR]; exact h1)
          have hcr : wr.cell? (ad.add i) = some (.slice r (xs.getD i []).length cx) := by rw [(unhide BR).cell (blk_lt hc)]; exact hc
          obtain ⟨x, ex⟩ : ∃ x, xs.getD i [] = x := ⟨_, rfl⟩
          rw [ex] at hcr hby hcx
          obtain ⟨l, el⟩ : ∃ l, x.length = l := ⟨_, rfl⟩
          rw [el] at hcr hcx
          have HBY := hide hby
          have EL := hide el
          have HNX := hide hnx
          clear ex hby el hnx hc
          by_cases h3 : l ≤ 200
          · go_wp2_with fail
            refine (rframe_any r l cx x (unhide EL) wr ((unhide HBY).below (unhide BR)) (unhide HNX) (by omega)).mono ?_
            rintro e w2 ⟨v2, rfl, o2, b2⟩
            have fl : (frame x).length = 8 + l := by rw [frame_length, unhide EL]
            obtain ⟨ao2, cap2, rfl, _, _, by2, hn2, _⟩ := o2.slice
            rw [fl]
            have O2 := hide ((unhide OW).below b2)
            have Y2 := hide by2
            have N2 := hide hn2
            have B2 := hide ((unhide BR).trans (b2.mono sr))
            have s2 := Nat.le_trans sr b2.size
            have FL := hide fl
            clear o2 b2 by2 hn2 fl hcr
            go_wp2_with (at_builtin; refine wpList_append_bytes rfl (.tmp 47) (.tmp 48) rfl w.heap.size _ bs m (unhide HMM) rfl (unhide O2) ao2 (8 + l) cap2 (frame x) rfl (unhide FL) (unhide Y2) (unhide N2) (by omega) s2 ?_)
            intro ao3 cap3 w3 o3 b3 _
            have O3 := hide o3
            have B3 := hide ((unhide B2).trans b3)
            clear o3 b3
            go_wp2
            go_roundg (8 - (i + 1))
            case measure => have := unhide HIG; omega
            case rel => exact ⟨i + 1, ao3, m + (8 + l), cap3, bs ++ frame x, by omega, by go_num, by simp, by rw [List.length_append, unhide HMM, unhide FL], by omega, unhide O3, unhide B3⟩
          · go_wp2
            go_roundg (8 - (i + 1))
            case measure => have := unhide HIG; omega
            case rel => exact ⟨i + 1, ao, m, cap, bs, by omega, by go_num, rfl, unhide HMM, by omega, unhide OW, unhide BR⟩
        · go_wp2_with fail
          go_meet
          exact ⟨ao, m, cap, bs, rfl, unhide HMM, by omega, unhide OW, unhide BR⟩
      · go_wp2_with fail
        go_meet
        exact ⟨ao, m, cap, bs, rfl, unhide HMM, by omega, unhide OW, unhide BR⟩
  case rest =>
    obtain ⟨ao, m, cap, bs, rfl, hm, hm8, ho, br⟩ := hcut
    have HMM := hide hm
    have OW := hide ho
    have BR := hide br
    have sr := br.size
    clear hm ho br B1
    go_upto_if 52 with fail
    go_cut [9] (fun bv wc => ∃ (ao : Option Addr) (m cap : Nat) (bs : List Nat), bv = .slice ao m cap ∧ bs.length = m ∧ m ≤ 2000 ∧ Own w.heap.size wc (.slice ao m cap) bs ∧ Below w.heap.size w wc)
    case first =>
      by_cases h3 : nm ≤ 200
      · have YM := hide ((unhide HYM).below (unhide BR))
        go_wp2_with (at_builtin; refine wpList_append_bytes rfl (.tmp 53) (.tmp 54) rfl w.heap.size _ bs m (unhide HMM) rfl (unhide OW) aom nm cm bm rfl (unhide HM) (unhide YM) (unhide HCM) (by omega) sr ?_)
        intro ao3 cap3 w3 o3 b3 _
        have O3 := hide o3
        have B3 := hide ((unhide BR).trans b3)
        clear o3 b3
        go_wp2
        go_meet
        exact ⟨ao3, m + nm, cap3, bs ++ bm, by simp, by rw [List.length_append, unhide HMM, unhide HM], by omega, unhide O3, unhide B3⟩
      · go_wp2
        go_meet
        exact ⟨ao, m, cap, bs, rfl, unhide HMM, by omega, unhide OW, unhide BR⟩
    case rest =>
      clear OW BR HMM sr hm8
      obtain ⟨ao, m, cap, bs, rfl, hm, hm8, ho, br⟩ := hcut
      have HMM := hide hm
      have OW := hide ho
      have BR := hide br
      have sr := br.size
      clear hm ho br
      go_upto_block 2 with fail
      go_cut [9] (fun bv wc => ∃ (ao : Option Addr) (m cap : Nat) (bs : List Nat), bv = .slice ao m cap ∧ bs.length = m ∧ m ≤ 2000 ∧ Own w.heap.size wc (.slice ao m cap) bs ∧ Below w.heap.size w wc)
      case first =>
        go_wp2_with fail
        go_loopg [13] 3 (fun g iv wr => ∃ (i : Nat) (bs : List Nat), i + g = 3 ∧ iv = .int .i64 (i : Int) ∧ bs.length = m ∧ Own w.heap.size wr (.slice ao m cap) bs ∧ Below w.heap.size w wr)
        case atStart => exact ⟨0, bs, rfl, rfl, unhide HMM, unhide OW, unhide BR⟩
        case round =>
          clear OW HMM
          obtain ⟨i, bs, hig, rfl, hm, ho, br2⟩ := hrel
          have HIG := hide hig
          have HMM := hide hm
          have OW := hide ho
          have B2 := hide br2
          have s2 := br2.size
          have hi3 : i ≤ 3 := by omega
          clear hig hm ho br2
          by_cases h1 : i < na
          · by_cases h2 : i < nb
            · by_cases h3 : i < 3
              · by_cases h4 : 0 < m
                · obtain ⟨g, rfl⟩ : ∃ g, ao = some ⟨g, 0, none⟩ := by
                    rcases (unhide OW).1.2 with ⟨e, _⟩ | ⟨g, cap', cur, e, _⟩
                    · simp only [Value.slice.injEq] at e; omega
                    · simp only [Value.slice.injEq] at e; exact ⟨g, e.1⟩
                  obtain ⟨ada, rfl, hca, _⟩ := unhide HYS i (by rw [unhide HA]; exact h1)
                  obtain ⟨adb, rfl, hcb⟩ := (unhide HYB).2 i (by rw [unhide HB]; exact h2)
                  have hcaL := blk_lt hca
                  have hcbL := blk_lt hcb
                  have hca2 : wr.cell? (ada.add i) = some (.int .i64 (ys.getD i 0)) := by rw [(unhide B2).cell hcaL]; exact hca
                  have hcb2 : wr.cell? (adb.add i) = some (.int .u8 ((bb.getD i 0 : Nat) : Int)) := by rw [(unhide B2).cell hcbL]; exact hcb
                  obtain ⟨y, ey⟩ : ∃ y, ys.getD i 0 = y := ⟨_, rfl⟩
                  obtain ⟨z, ez⟩ : ∃ z, bb.getD i 0 = z := ⟨_, rfl⟩
                  rw [ey] at hca2
                  rw [ez] at hcb2
                  obtain ⟨j, ej⟩ : ∃ j : Nat, y % (m : Int) = (j : Int) := ⟨(y % (m : Int)).toNat, by have := Int.emod_nonneg y (show (m : Int) ≠ 0 by omega); omega⟩
                  have hjm : j < m := by have := Int.emod_lt_of_pos y (show (0 : Int) < (m : Int) by omega); omega
                  have how : wr.ownsRow w.heap.size 5 1 (.slice (some ⟨g, 0, none⟩) m cap) m (u8s bs) := by have h := (unhide OW).1; rw [unhide HMM] at h; exact h
                  have hcj : wr.cell? ⟨g, j, none⟩ = some (.int .u8 ((bs.getD j 0 : Nat) : Int)) := by
                    rw [how.cellAt j (by omega), u8s, List.getElem?_map, List.getD_eq_getElem?_getD, List.getElem?_eq_getElem (by rw [unhide HMM]; exact hjm)]; rfl
                  obtain ⟨x, ex⟩ : ∃ x, bs.getD j 0 = x := ⟨_, rfl⟩
                  rw [ex] at hcj
                  have hfz := how.frozenAt j
                  have hst := how.stored j (.int .u8 (((x + z) % 256 : Nat) : Int))
                  have hg1 := (how.lt g rfl).1
                  have hea := u8_add x z
                  have j1 : (j : Int) < (m : Int) := by omega
                  have EJ := hide ej
                  have HST := hide hst
                  have eset : (u8s bs).set j (.int .u8 (((x + z) % 256 : Nat) : Int)) = u8s (bs.set j ((x + z) % 256)) := by rw [u8s, u8s, List.map_set]
                  have ESET := hide eset
                  clear hca hcb ej ey ez ex how hst eset
                  go_wp2
                  go_region_with (first
                    | (go_at_call 26; refine (within_nat y _ j (unhide EJ) _ (by omega) (by omega)).mono ?_; rintro e w' ⟨rfl, rfl⟩))
                  all_goals go_wp2
                  all_goals go_roundg (3 - (i + 1))
                  all_goals first
                    | (have := unhide HIG; omega)
                    | skip
                  all_goals
                    have hv : ((x : Int) + (z : Int)) % 256 = (((x + z) % 256 : Nat) : Int) := by omega
                    rw [hv]
                    have hst := unhide HST
                    refine ⟨i + 1, bs.set j ((x + z) % 256), by omega, by go_num, by rw [List.length_set]; exact unhide HMM, ⟨?_, ?_⟩, ((unhide B2).setCell (p := ⟨g, j, none⟩) hg1 _).drew⟩
                    · rw [List.length_set, unhide HMM, ← unhide ESET]; exact own_below hst.1 (Below.refl _ _).drew
                    · intro q hq
                      rcases List.mem_or_eq_of_mem_set hq with h | h
                      · exact (unhide OW).2 q h
                      · omega
                · obtain rfl : m = 0 := by omega
                  go_wp2
                  go_meet
                  exact ⟨ao, 0, cap, bs, rfl, unhide HMM, by omega, unhide OW, unhide B2⟩
              · go_wp2
                go_meet
                exact ⟨ao, m, cap, bs, rfl, unhide HMM, by omega, unhide OW, unhide B2⟩
            · go_wp2
              go_meet
              exact ⟨ao, m, cap, bs, rfl, unhide HMM, by omega, unhide OW, unhide B2⟩
          · go_wp2
            go_meet
            exact ⟨ao, m, cap, bs, rfl, unhide HMM, by omega, unhide OW, unhide B2⟩
      case rest =>
        clear OW BR HMM sr hm8
        obtain ⟨ao, m, cap, bs, rfl, hm, hm8, ho, br⟩ := hcut
        have HMM := hide hm
        have OW := hide ho
        have BR := hide br
        have sr := br.size
        clear hm ho br
        have ownE := own_empty w.heap.size wc sr
        have bE : Below wc.heap.size wc (wc.alloc (.cells #[] 5)) := (Below.refl _ wc).alloc (Nat.le_refl _) _
        have OE := hide ownE
        have BE := hide bE
        have oB := (unhide OW).below bE
        obtain ⟨aox, capx, evx, hcx, _, byx, hnx, _⟩ := oB.slice
        rw [unhide HMM] at evx hcx
        simp only [Value.slice.injEq] at evx
        obtain ⟨rfl, hq1, rfl⟩ := evx
        clear hq1
        have YB := hide byx
        have NB := hide hnx
        have OB := hide oB
        have sE := bE.size
        clear ownE bE oB byx hnx
        go_wp2_with (at_builtin; refine wpList_append_bytes rfl (.tmp 94) (.tmp 95) rfl w.heap.size _ [] 0 rfl rfl (unhide OE) ao m cap bs rfl (unhide HMM) (unhide YB) (unhide NB) (by omega) (Nat.le_trans sr sE) ?_)
        intro ao3 cap3 w3 o3 b3 hk3
        have hnb : ∀ k, (Value.slice ao m cap).ownBlock = some k → w3.heap[k]? = (wc.alloc (.cells #[] 5)).heap[k]? := fun k hk => by
          have h1 := ((unhide OW).1.lt k (by rw [unhide HMM] at *; exact hk)).2
          exact hk3 k (by omega) (fun e => by simp only [Value.ownBlock, Option.some.injEq] at e; omega)
        have ob3 : Own w.heap.size w3 (.slice ao m cap) bs := ⟨own_kept (unhide OB).1 hnb, (unhide OB).2⟩
        obtain ⟨aoy, capy, evy, hcy, _, byy, hny, _⟩ := o3.slice
        obtain ⟨aoz, capz, evz, _, _, byz, hnz, _⟩ := ob3.slice
        simp only [unhide HMM] at evy hcy evz
        simp only [Value.slice.injEq] at evy evz
        obtain ⟨rfl, hq1, rfl⟩ := evy
        obtain ⟨rfl, hq2, rfl⟩ := evz
        have Y3 := hide byy
        have Z3 := hide byz
        have NZ := hide hnz
        have b3' := (unhide BR).trans (((unhide BE).mono sr).trans b3)
        have B3 := hide b3'
        have S3 := hide ((unhide HS).below b3')
        have s3 := b3'.size
        clear o3 b3 hk3 hnb ob3 byy hny byz hnz hq1 hq2 b3' OE BE OB YB NB
        go_wp2_with fail
        refine (split_len ao3 m cap3 bs (unhide HMM) w3 (unhide Y3) hcy (by omega) (unhide S3)).mono ?_
        rintro e w4 ⟨fv, vs, rfl, ho4, hr4, b4⟩
        have hLm := row_len ho4
        obtain ⟨aof, capf, rfl, hcf⟩ := row_shape ho4
        have Z4 := hide ((unhide Z3).below b4)
        have B4 := hide ((unhide B3).trans (b4.mono s3))
        have S4 := hide ((unhide S3).below b4)
        have s4 := Nat.le_trans s3 b4.size
        obtain ⟨L, eL⟩ : ∃ L, vs.length = L := ⟨_, rfl⟩
        rw [eL] at hcf hLm ⊢
        have hLx : (splitOf (bs.length + 1) bs).1.length = L := by rw [← hr4.1, eL]
        have HCF := hide hcf
        have HR4 := hide hr4
        have EL := hide eL
        have HLX := hide hLx
        clear ho4 hr4 b4 hcf eL hLx
        go_wp2_with fail
        refine (rsplit_len ao m cap bs (unhide HMM) w4 (unhide Z4) hcx (by omega)).mono ?_
        rintro e w5 ⟨fv5, vs5, rfl, ho5, hr5, b5⟩
        obtain ⟨aog, capg, rfl, hcg⟩ := row_shape ho5
        have eL5 : vs5.length = L := by rw [hr5.1]; exact unhide HLX
        rw [eL5] at hcg ⊢
        have HCF5 : Hid (∀ j, j < L → ∃ g, aof = some ⟨g, 0, none⟩ ∧ w5.cell? ⟨g, j, none⟩ = vs[j]?) := fun j hj => by
          obtain ⟨g, e1, e2⟩ := unhide HCF j hj
          have hv : vs[j]? = some vs[j]! := by rw [List.getElem?_eq_getElem (by rw [unhide EL]; exact hj)]; simp [unhide EL, hj]
          exact ⟨g, e1, by rw [b5.cell (blk_lt (e2.trans hv))]; exact e2⟩
        have HR5a := hide ((unhide HR4).kept (fun v x h => h.below b5))
        have HCG := hide hcg
        have HR5 := hide hr5
        have EL5 := hide eL5
        have Z5 := hide ((unhide Z4).below b5)
        have B5 := hide ((unhide B4).trans (b5.mono s4))
        have S5 := hide ((unhide S4).below b5)
        clear ho5 hr5 b5 hcg eL5 HCF HR4
        generalize (splitOf (bs.length + 1) bs).2.1 = q1 at *
        generalize (splitOf (bs.length + 1) bs).2.2 = q2 at *
        go_wp2_with fail
        refine (crc_len ao m cap bs (unhide HMM) w5 (unhide Z5) (unhide NZ) (by omega) (unhide S5).1).mono ?_
        rintro e w5' ⟨rfl, rfl⟩
        go_wp2_with fail
        refine (rcrc_any ao m cap bs (unhide HMM) w5' (unhide Z5) (unhide NZ) (by omega)).mono ?_
        rintro e w5 ⟨rfl, rfl⟩
        generalize Sum.crc bs = cc at *
        go_wp2_with fail
        go_loopw [20] (fun iv wr' => ∃ i : Nat, i ≤ L ∧ iv = .int .i64 i ∧ Below w5.heap.size w5 wr') (fun iv _ => L - (intOf iv).toNat)
        case atStart => exact ⟨0, Nat.zero_le _, rfl, Below.refl _ _⟩
        case round =>
          obtain ⟨i, hiL, rfl, hb6⟩ := hrel
          have B6 := hide hb6
          clear hb6
          by_cases hlt : i < L
          · obtain ⟨gf, rfl, hcf⟩ := (unhide HCF5) i hlt
            obtain ⟨gg, rfl, hcg⟩ := (unhide HCG) i hlt
            obtain ⟨vi, hvi⟩ : ∃ vi, vs[i]? = some vi := ⟨_, List.getElem?_eq_getElem (by rw [unhide EL]; exact hlt)⟩
            obtain ⟨ui, hui⟩ : ∃ ui, vs5[i]? = some ui := ⟨_, List.getElem?_eq_getElem (by rw [unhide EL5]; exact hlt)⟩
            obtain ⟨x, hxi⟩ : ∃ x, (splitOf (bs.length + 1) bs).1[i]? = some x := ⟨_, List.getElem?_eq_getElem (by rw [unhide HLX]; exact hlt)⟩
            obtain ⟨aoi, capi, rfl, _, _, byi, _⟩ := (((unhide HR5a).2 i vi _ hvi hxi).below (unhide B6)).slice
            obtain ⟨aoj, capj, rfl, _, _, byj, _⟩ := (((unhide HR5).2 i ui _ hui hxi).below (unhide B6)).slice
            have hci : wr.cell? ⟨gf, i, none⟩ = some (.slice aoi x.length capi) := by
              rw [(unhide B6).cell (blk_lt (hcf.trans hvi)), hcf]; exact hvi
            have hcj : wr.cell? ⟨gg, i, none⟩ = some (.slice aoj x.length capj) := by
              rw [(unhide B6).cell (blk_lt (hcg.trans hui)), hcg]; exact hui
            have c1 := fun q => conv_str (cap := capi) (byi.below (drewN_below wr q)) rfl
            have c2 := fun q => conv_str (cap := capj) (byj.below (drewN_below wr q)) rfl
            have q0 : (i : Int) < L := by omega
            clear hcf hcg hvi hui hxi byi byj
            generalize str x = sx at *
            generalize x.length = li at *
            go_wp2_with fail
            go_quiet (fail)
            go_wp2
            go_roundw
            case rel => exact ⟨i + 1, by omega, by go_num, (unhide B6).trans ((drewN_below _ _).mono (unhide B6).size)⟩
            case measure => simp [intOf]; omega
          · go_wp2
            go_ret
            exact ⟨rfl, (unhide B5).trans ((unhide B6).mono (unhide B5).size)⟩
end Go.Proofs.YtnknmdpifjgfhaaDoor
