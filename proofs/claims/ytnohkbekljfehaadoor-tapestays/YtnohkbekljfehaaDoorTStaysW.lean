/- The walk of TapeStays. -/
import Derived.Test.YtnohkbekljfehaaDoorTAppB
import Derived.Test.YtnohkbekljfehaaDoorTArgRows
import Derived.BigQuiet
import Derived.Deep.RegionHeld
namespace Go.Proofs.YtnohkbekljfehaaDoor
open Go.RowKit

structure Stay (s : St) (ba : List Nat) (na i : Nat) : Prop where
  room : s.room = 100000
  left : s.left = 0
  dead : s.dead = false
  ops : s.ops ≤ 2 + i
  syn : na ≤ s.syn
  low : s.syn ≤ s.bs.length
  front : s.bs.take na = ba
  few : s.bs.length ≤ 500 + 300 * i
theorem stay_append {s : St} {ba : List Nat} {na i : Nat} (h : Stay s ba na i) (hi : i ≤ 15) (x : List Nat) (hx : x.length ≤ 300) :
    s.append x = (0, { s with bs := s.bs ++ x, ops := s.ops + 1 }) ∧ Stay { s with bs := s.bs ++ x, ops := s.ops + 1 } ba na (i + 1) := by
  have h1 := h.room; have h2 := h.few; have h3 := h.syn; have h4 := h.low; have h5 := h.ops
  refine ⟨append_ok s x h.dead (by omega) (by rw [h.left]; decide), h.room, h.left, h.dead, by simp only; omega, h.syn, by simp only [List.length_append]; omega, ?_, by simp only [List.length_append]; omega⟩
  simp only
  rw [List.take_append_of_le_length (by omega)]; exact h.front
theorem stay_mono {s : St} {ba : List Nat} {na i : Nat} (h : Stay s ba na i) : Stay s ba na (i + 1) :=
  ⟨h.room, h.left, h.dead, by have := h.ops; omega, h.syn, h.low, h.front, by have := h.few; omega⟩
theorem stay_crash {s : St} {ba : List Nat} {na i : Nat} (h : Stay s ba na i) (pick : Int) : ∃ c, c ≤ s.bs.length ∧ na ≤ c ∧ (s.crash pick).bs = s.bs.take c ∧ Stay (s.crash pick) ba na i := by
  have hk := (kept_spec s pick h.low).2
  have h3 := h.syn; have h2 := h.few
  refine ⟨s.syn + s.kept pick, hk, by omega, rfl, h.room, rfl, rfl, h.ops, by simp only [St.crash]; omega, by simp only [St.crash, List.length_take]; omega, ?_, by simp only [St.crash, List.length_take]; omega⟩
  simp only [St.crash]
  rw [List.take_take, Nat.min_eq_left (by omega)]; exact h.front

/-- a row of the call's own lies apart from a tape. -/
def Apart (v : Value) (p : Nat) (q : Option Nat) : Prop := ∀ k, v.ownBlock = some k → k ≠ p ∧ q ≠ some k
theorem Apart.foot {v : Value} {p : Nat} {q : Option Nat} (h : Apart v p q) : ∀ k, v.ownBlock = some k → ¬ foot p q k := fun k hk hf => by
  rcases hf with hf | hf
  · exact (h k hk).1 hf
  · exact (h k hk).2 hf
theorem Apart.fresh {base : Nat} {w : World} {v : Value} {bs : List Nat} {p : Nat} {q q' : Option Nat} (h : Apart v p q) (ho : Own base w v bs) (hf : Fresh w q q') : Apart v p q' := fun k hk =>
  ⟨(h k hk).1, fun e => by
    rcases hf k e with h1 | h1
    · exact (h k hk).2 h1
    · have := (ho.1.lt k hk).2; omega⟩
theorem Apart.moved {base : Nat} {w : World} {v v' : Value} {p : Nat} {q : Option Nat} {s : St} (h : Apart v p q) (ht : Tp base w p q s) (hat : v'.ownBlock = v.ownBlock ∨ v'.ownBlock = some w.heap.size) : Apart v' p q := fun k hk => by
  rcases hat with e | e
  · exact h k (e ▸ hk)
  · rw [e] at hk
    cases hk
    refine ⟨fun e1 => by have := ht.lt.2.1; omega, fun e1 => by have := (ht.lt.2.2 _ e1).2; omega⟩
theorem Apart.new {base : Nat} {w w' : World} {v : Value} {bs : List Nat} {p : Nat} {q : Option Nat} {s : St} (ht : Tp base w p q s) (ho : Own w.heap.size w' v bs) : Apart v p q := fun k hk => by
  have h1 := (ho.1.lt k hk).1
  exact ⟨fun e1 => by have := ht.lt.2.1; omega, fun e1 => by have := (ht.lt.2.2 _ e1).2; omega⟩

theorem bytes_own (base p : Nat) (q : Option Nat) (s : St) (bs : List Nat) (n : Nat) (e1 : s.bs = bs) (e2 : bs.length = n) (w : World) (h : Tp base w p q s) :
    Calls Tryd.prog 23 #[.pointer (some ⟨p, 0, none⟩)] w fun e w' => ∃ ao cap, e = .returned (.slice ao n cap) ∧ Own w.heap.size w' (.slice ao n cap) bs ∧ Below w.heap.size w w' := by
  subst e1
  subst e2
  refine (bytes_any base p q s w h).mono ?_
  rintro e w' ⟨v, rfl, o, b⟩
  obtain ⟨ao, cap, rfl, _⟩ := o.slice
  exact ⟨ao, cap, rfl, o, b⟩

set_option maxRecDepth 20000 in
set_option maxHeartbeats 4000000 in
theorem stays_walk (aoa : Option Addr) (na ca : Nat) (ba : List Nat) (ha : ba.length = na) (aor : Option Addr) (nr cr : Nat) (xs : List (List Nat)) (hr : xs.length = nr) (aop : Option Addr) (np cp : Nat) (ys : List Int) (hp : ys.length = np)
    (a : Addr) (w : World) (hya : Bytes w aoa ba) (hca : aoa = none → ca = 0) (hxs : RowsArg w aor xs) (hys : Nums w aop ys) (h5 : na ≤ 500) (hG : Glob w a) (hz : 1 ≤ w.heap.size) :
    Calls Tryd.prog 4 #[.slice aoa na ca, .slice aor nr cr, .slice aop np cp] w fun e w' => e = .returned (.bool true) ∧ Below w.heap.size w w' := by
  have HA := hide ha
  have HR := hide hr
  have HPP := hide hp
  have YA := hide hya
  have CA := hide hca
  have HXS := hide hxs
  have HYS := hide hys
  have HG := hide hG
  clear ha hr hp hya hca hxs hys hG
  go_enter Tryd.func4, Tryd.ntmps4
  go_wp2_with fail
  refine (known_any a w (unhide HG) hz).mono ?_
  rintro e w1 ⟨rfl, b1⟩
  have B1 := hide b1
  have s1 := b1.size
  clear b1
  go_wp2_with fail
  refine (new_ok 100000 w1 (by decide) (by decide)).mono ?_
  rintro e w2 ⟨rfl, t2, b2⟩
  have T2 := hide t2
  have B2 := hide ((unhide B1).trans (b2.mono s1))
  have s2 := b2.size
  have z1 : 1 ≤ w1.heap.size := Nat.le_trans hz s1
  clear t2 b2
  go_wp2_with fail
  refine (append_any w1.heap.size w1.heap.size none _ a aoa na ca ba (unhide HA) w2 (unhide T2) ((unhide HG).kept (unhide B2) hz) z1 s2 (by simp) (by simp) (fun w' k => (unhide YA).below ((unhide B2).trans (k.1.mono s1))) (unhide CA) (by omega)).mono ?_
  rw [append_ok _ _ rfl (by simp [unhide HA]; omega) (by simp)]
  rintro e w3 ⟨q3, rfl, t3, k3, _⟩
  have T3 := hide t3
  have B3 := hide ((unhide B2).trans (k3.1.mono s1))
  have s3 := Nat.le_trans s2 k3.size
  clear t3 k3
  go_wp2_with fail
  refine (sync_any w1.heap.size w1.heap.size q3 _ a w3 (unhide T3) ((unhide HG).kept (unhide B3) hz) s3 (by simp) (by simp)).mono ?_
  rw [sync_ok _ rfl (by simp [unhide HA]; omega) (by simp)]
  rintro e w4 ⟨rfl, t4, k4⟩
  have T4 := hide t4
  have B4 := hide ((unhide B3).trans (k4.1.mono s1))
  have s4 := Nat.le_trans s3 k4.size
  have ownE := own_empty w1.heap.size w4 s4
  have bE : Below w4.heap.size w4 (w4.alloc (.cells #[] 5)) := (Below.refl _ w4).alloc (Nat.le_refl _) _
  have tE := (unhide T4).below bE
  have stay0 : Stay ⟨100000, [] ++ ba, ([] ++ ba).length, 0 + 1 + 1, 0, false⟩ ba na 0 := ⟨rfl, rfl, rfl, Nat.le_refl _, by simp [unhide HA], Nat.le_refl _, by simp only [List.nil_append]; rw [← unhide HA, List.take_length], by simp [unhide HA]; omega⟩
  have apE : Apart (.slice (some ⟨w4.heap.size, 0, none⟩) 0 0) w1.heap.size q3 := fun k hk => by
    simp only [Value.ownBlock, Option.some.injEq] at hk
    subst hk
    refine ⟨fun e1 => by have := (unhide T4).lt.2.1; omega, fun e1 => by have := ((unhide T4).lt.2.2 _ e1).2; omega⟩
  have OWNE := hide ownE
  have BE := hide ((unhide B4).trans (bE.mono (unhide B4).size))
  have TE := hide tE
  have STAY0 := hide stay0
  have APE := hide apE
  have sE := bE.size
  have YE := hide ((unhide YA).below (unhide BE))
  clear t4 k4 ownE bE tE stay0 apE
  go_wp2_with (at_builtin; refine wpList_append_bytes rfl (.tmp 30) (.tmp 31) rfl w1.heap.size _ [] 0 rfl rfl (unhide OWNE) aoa na ca ba rfl (unhide HA) (unhide YE) (unhide CA) (by omega) (Nat.le_trans s4 sE) ?_)
  intro ao5 cap5 w5 o5 k5 hat5
  have T5 := hide ((unhide TE).kept k5 (fun e => ((unhide APE) _ e).1 rfl) (fun k hk e => ((unhide APE) k e).2 hk))
  have A5 : Hid (Apart (.slice ao5 na cap5) w1.heap.size q3) := (unhide APE).moved (unhide TE) (by simpa using hat5)
  have O5 := hide o5
  have B5 := hide ((unhide BE).trans (k5.1.mono s1))
  have s5 := Nat.le_trans (Nat.le_trans s4 sE) k5.size
  clear o5 k5 hat5
  go_wp2_with fail
  go_loopg [9, 10] 15 (fun g av iv wr => ∃ (i : Nat) (qb : Option Nat) (s : St) (ao : Option Addr) (m cap : Nat), i + g = 15 ∧ iv = .int .i64 (i : Int) ∧ s.bs.length = m ∧ av = .slice ao m cap ∧ Stay s ba na i ∧ Own w1.heap.size wr (.slice ao m cap) s.bs ∧ Apart (.slice ao m cap) w1.heap.size qb ∧ Tp w1.heap.size wr w1.heap.size qb s ∧ Below w.heap.size w wr ∧ w1.heap.size ≤ wr.heap.size)
  case atStart => exact ⟨0, q3, _, ao5, na, cap5, rfl, rfl, by simp [unhide HA], rfl, unhide STAY0, by simpa using unhide O5, unhide A5, unhide T5, unhide B5, s5⟩
  case round =>
    obtain ⟨i, qb, s, ao, m, cap, hig, rfl, hm, rfl, hst, ho, hap, tr, br, sr⟩ := hrel
    have HIG := hide hig
    have hi15 : i ≤ 15 := by omega
    have HM := hide hm
    have ST := hide hst
    have OW := hide ho
    have AP := hide hap
    have TR := hide tr
    have BR := hide br
    have hmf : m ≤ 5000 := by have := hst.few; omega
    clear hig hm hst ho hap tr br T5 A5 O5 B5 STAY0
    by_cases h1 : i < nr
    · by_cases h2 : i < 15
      · obtain ⟨ad, r, cx, rfl, hc, hby, hcx, hnx⟩ := unhide HXS i (by rw [unhide HR]; exact h1)
        have hcr : wr.cell? (ad.add i) = some (.slice r (xs.getD i []).length cx) := by rw [(unhide BR).cell (blk_lt hc)]; exact hc
        obtain ⟨x, ex⟩ : ∃ x, xs.getD i [] = x := ⟨_, rfl⟩
        rw [ex] at hcr hby hcx
        obtain ⟨l, el⟩ : ∃ l, x.length = l := ⟨_, rfl⟩
        rw [el] at hcr hcx
        have HBY := hide hby
        have EL := hide el
        have HNX := hide hnx
        have HC := hide hc
        clear ex hby el hnx hc
        by_cases h3 : 300 < l
        · go_wp2
          go_roundg (15 - (i + 1))
          case measure => have := unhide HIG; omega
          case rel => exact ⟨i + 1, qb, s, ao, m, cap, by omega, by go_num, unhide HM, rfl, stay_mono (unhide ST), unhide OW, unhide AP, unhide TR, unhide BR, sr⟩
        · obtain ⟨eapp, hst6⟩ := stay_append (unhide ST) hi15 x (by rw [unhide EL]; omega)
          have EAPP := hide eapp
          have ST6 := hide hst6
          have hops : s.ops ≤ 4611686018427387904 := by have := (unhide ST).ops; omega
          have hleft : s.left ≤ 9223372036854775807 := by rw [(unhide ST).left]; decide
          have HOPS := hide hops
          have HLEFT := hide hleft
          clear eapp hst6 hops hleft
          go_wp2_with fail
          refine (append_any w1.heap.size w1.heap.size qb s a r l cx x (unhide EL) wr (unhide TR) ((unhide HG).kept (unhide BR) hz) z1 sr (unhide HOPS) (unhide HLEFT) (fun w' k => (unhide HBY).below ((unhide BR).trans (k.1.mono s1))) (unhide HNX) (by omega)).mono ?_
          rw [unhide EAPP]
          rintro e w6 ⟨q6, rfl, t6, k6, f6⟩
          have T6 := hide t6
          have O6 := hide ((unhide OW).kept k6 (unhide AP).foot)
          have A6 := hide ((unhide AP).fresh (unhide OW) f6)
          have b6 := (unhide BR).trans (k6.1.mono s1)
          have B6 := hide b6
          have s6 := Nat.le_trans sr k6.size
          have hcr6 : w6.cell? (ad.add i) = some (.slice r l cx) := by rw [k6.1.cell (Nat.lt_of_lt_of_le (blk_lt (unhide HC)) s1)]; exact hcr
          have Y6 := hide ((unhide HBY).below b6)
          clear t6 k6 f6 b6 hcr
          go_wp2_with (at_builtin; refine wpList_append_bytes rfl (.tmp 56) (.tmp 60) rfl w1.heap.size _ s.bs m (unhide HM) rfl (unhide O6) r l cx x rfl (unhide EL) (unhide Y6) (unhide HNX) (by omega) s6 ?_)
          intro ao7 cap7 w7 o7 k7 hat7
          have T7 := hide ((unhide T6).kept k7 (fun e => ((unhide A6) _ e).1 rfl) (fun k hk e => ((unhide A6) k e).2 hk))
          have A7 := hide ((unhide A6).moved (unhide T6) hat7)
          have O7 := hide o7
          have B7 := hide ((unhide B6).trans (k7.1.mono s1))
          have s7 := Nat.le_trans s6 k7.size
          have hm7 : (s.bs ++ x).length = m + l := by rw [List.length_append, unhide HM, unhide EL]
          have HM7 := hide hm7
          clear o7 k7 hat7 hcr6 hm7
          by_cases h4 : i < np
          · obtain ⟨adp, rfl, hcp, hy1, hy2⟩ := unhide HYS i (by rw [unhide HPP]; exact h4)
            have hcp7 : w7.cell? (adp.add i) = some (.int .i64 (ys.getD i 0)) := by rw [(unhide B7).cell (blk_lt hcp)]; exact hcp
            obtain ⟨y, ey⟩ : ∃ y, ys.getD i 0 = y := ⟨_, rfl⟩
            rw [ey] at hcp7 hy1 hy2
            have HCP := hide hcp
            clear ey hcp
            by_cases h5' : (y.tmod 2 == 1) = true
            · obtain ⟨c, hc1, hc2, hc3, hst8⟩ := stay_crash (unhide ST6) (y.tdiv 2)
              have x2 := IntWalk.i64_quo' y 2 ⟨hy1, hy2, by decide⟩
              simp only at hc1 hc3
              rw [unhide HM7] at hc1
              have hlc : ((s.bs ++ x).take c).length = c := by rw [List.length_take, unhide HM7]; omega
              have HC3 := hide hc3
              have ST8 := hide hst8
              have HLC := hide hlc
              clear hc3 hst8 hlc
              go_wp2_with fail
              refine (crash_any w1.heap.size w1.heap.size q6 _ (y.tdiv 2) w7 (unhide T7)).mono ?_
              rintro e w8 ⟨rfl, t8, k8⟩
              have T8 := hide t8
              have O8 := hide ((unhide O7).kept k8 (fun k hk e => ((unhide A7) k hk).1 e))
              have B8 := hide ((unhide B7).trans (k8.1.mono s1))
              have s8 := Nat.le_trans s7 k8.size
              clear t8 k8 x2 hcp7
              go_wp2_with fail
              refine (bytes_own w1.heap.size w1.heap.size q6 _ ((s.bs ++ x).take c) c (unhide HC3) (unhide HLC) w8 (unhide T8)).mono ?_
              rintro e w9 ⟨ao9, cap9, rfl, o9, b9⟩
              have T9 := hide ((unhide T8).below b9)
              have A9 := hide (Apart.new (unhide T8) o9)
              have O9 := hide (o9.mono s8)
              have B9 := hide ((unhide B8).trans (b9.mono (unhide B8).size))
              have s9 := Nat.le_trans s8 b9.size
              obtain ⟨aox, capx, ev9, hcx9, _, by9, _⟩ := o9.slice
              simp only [Value.slice.injEq] at ev9
              obtain ⟨rfl, hx9, rfl⟩ := ev9
              obtain ⟨aoy, capy, ev7, hcy7, _, by7, _⟩ := (unhide O8).slice
              simp only [Value.slice.injEq] at ev7
              obtain ⟨rfl, hx7, rfl⟩ := ev7
              rw [unhide HM7] at hcy7
              have cv1 := fun q => conv_str (cap := cap9) (by9.below (drewN_below w9 q)) (unhide HLC)
              have cv2 := fun q => conv_str (cap := cap7) (((by7.take c).below b9).below (drewN_below w9 q)) (unhide HLC)
              have g1 : decide ((c : Int) < (na : Int)) = false := by simp; omega
              have g2 : decide (((m : Int) + (l : Int)) < (c : Int)) = false := by simp; omega
              have g3 : (c : Int) ≤ (cap7 : Int) := by omega
              clear o9 b9 by9 by7 hcx9 hx9 hx7
              go_wp2
              go_quiet (fail)
              go_wp2
              go_roundg (15 - (i + 1))
              case measure => have := unhide HIG; omega
              case rel =>
                have bq := drewN_below w9 nq
                exact ⟨i + 1, q6, _, ao9, c, cap9, by omega, by go_num, by rw [unhide HC3]; exact unhide HLC, by simp, unhide ST8, by rw [unhide HC3]; exact ⟨own_below (unhide O9).1 bq, (unhide O9).2⟩, unhide A9, (unhide T9).below bq, (unhide B9).trans (bq.mono (unhide B9).size), s9⟩
            · have h5'' : (y.tmod 2 == 1) = false := by simpa using h5'
              clear h5'
              go_wp2
              go_roundg (15 - (i + 1))
              case measure => have := unhide HIG; omega
              case rel => exact ⟨i + 1, q6, _, ao7, m + l, cap7, by omega, by go_num, unhide HM7, by simp, unhide ST6, unhide O7, unhide A7, unhide T7, unhide B7, s7⟩
          · go_wp2
            go_roundg (15 - (i + 1))
            case measure => have := unhide HIG; omega
            case rel => exact ⟨i + 1, q6, _, ao7, m + l, cap7, by omega, by go_num, unhide HM7, by simp, unhide ST6, unhide O7, unhide A7, unhide T7, unhide B7, s7⟩
      · have YT : ∀ w', Below w.heap.size w w' → (convert 31 9 (.slice aoa na ca)).run Tryd.prog w' = .ok (.string (str ba)) w' := fun w' hb => conv_str ((unhide YA).below hb) (unhide HA)
        have S6 := YT _ (unhide BR).drew
        have HYT := hide YT
        have hna : na ≤ m := by have := (unhide ST).syn; have := (unhide ST).low; have := unhide HM; omega
        have fl : (s.bs.take na).length = na := by rw [List.length_take, unhide HM]; omega
        have FL := hide fl
        have FR := hide (unhide ST).front
        clear YT fl
        go_wp2
        go_region_held (fun w' => (convert 31 9 (.slice aoa na ca)).run Tryd.prog w' = .ok (.string (str ba)) w') (first | exact S6 | exact S8)
          (first
          | (go_at_call 23; refine (bytes_str w1.heap.size w1.heap.size qb s s.bs m rfl (unhide HM) w _ ((unhide TR).below (drew_below _)) (unhide BR).drew).mono ?_; rintro e w8 ⟨ao8, cap8, rfl, y8, hc8, _, _, _, b8, _⟩; have S8 := unhide HYT _ b8; have B8 := hide b8; have cv8 := conv_str (cap := cap8) (y8.take na) (unhide FL); rw [unhide FR] at cv8; have g8 : (na : Int) ≤ (cap8 : Int) := (by omega); clear y8 b8))
        all_goals go_wp2
        all_goals go_ret
        all_goals refine ⟨?_, unhide B8⟩
        all_goals first | rfl | simp
    · have YT : ∀ w', Below w.heap.size w w' → (convert 31 9 (.slice aoa na ca)).run Tryd.prog w' = .ok (.string (str ba)) w' := fun w' hb => conv_str ((unhide YA).below hb) (unhide HA)
      have S6 := YT _ (unhide BR).drew
      have HYT := hide YT
      have hna : na ≤ m := by have := (unhide ST).syn; have := (unhide ST).low; have := unhide HM; omega
      have fl : (s.bs.take na).length = na := by rw [List.length_take, unhide HM]; omega
      have FL := hide fl
      have FR := hide (unhide ST).front
      clear YT fl
      go_wp2
      go_region_held (fun w' => (convert 31 9 (.slice aoa na ca)).run Tryd.prog w' = .ok (.string (str ba)) w') (first | exact S6 | exact S8)
        (first
        | (go_at_call 23; refine (bytes_str w1.heap.size w1.heap.size qb s s.bs m rfl (unhide HM) w _ ((unhide TR).below (drew_below _)) (unhide BR).drew).mono ?_; rintro e w8 ⟨ao8, cap8, rfl, y8, hc8, _, _, _, b8, _⟩; have S8 := unhide HYT _ b8; have B8 := hide b8; have cv8 := conv_str (cap := cap8) (y8.take na) (unhide FL); rw [unhide FR] at cv8; have g8 : (na : Int) ≤ (cap8 : Int) := (by omega); clear y8 b8))
      all_goals go_wp2
      all_goals go_ret
      all_goals refine ⟨?_, unhide B8⟩
      all_goals first | rfl | simp
theorem stays_skip (aoa : Option Addr) (na ca : Nat) (v1 v2 : Value) (a : Addr) (w : World) (h5 : 500 < na) (hG : Glob w a) (hz : 1 ≤ w.heap.size) :
    Calls Tryd.prog 4 #[.slice aoa na ca, v1, v2] w fun e w' => e = .returned (.bool true) ∧ Below w.heap.size w w' := by
  have HG := hide hG
  clear hG
  go_enter Tryd.func4, Tryd.ntmps4
  go_wp2_with fail
  refine (known_any a w (unhide HG) hz).mono ?_
  rintro e w1 ⟨rfl, b1⟩
  go_wp2
  go_ret
  exact ⟨rfl, b1⟩
end Go.Proofs.YtnohkbekljfehaaDoor
