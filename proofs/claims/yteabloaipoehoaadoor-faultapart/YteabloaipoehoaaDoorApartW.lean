/- The law FaultApart, walked: it answers true; memory that was there is as it was. -/
import Derived.Test.YteabloaipoehoaaDoorWrap2
import Derived.BigQuiet
import Derived.Deep.QuietTactic
import Derived.Deep.RegionWith
import Derived.Deep.DeepCutAuto
namespace Go.Proofs.YteabloaipoehoaaDoor
open Go.RowKit Go.Extern.Stop Go.Stop Go.Extern

theorem apart_none (n : Int) (a : Option Addr) (cap : Nat) (y : ByteArray) (w : World) (hg : Glob w) :
    Calls Tryd.prog 8 #[.int .i64 n, .slice a 0 cap, .string y] w fun e w' => e = .returned (.bool true) ∧ Below w.heap.size w w' := by
  go_enter Tryd.func8, Tryd.ntmps8
  go_wp2_with fail
  refine (known_true w hg).mono ?_
  rintro e w1 ⟨rfl, hb1⟩
  go_wp2_with fail
  go_ret
  exact ⟨rfl, hb1⟩

theorem apart_many (n : Int) (a : Option Addr) (len cap : Nat) (hl : 10 < (len : Int)) (y : ByteArray) (w : World) (hg : Glob w) :
    Calls Tryd.prog 8 #[.int .i64 n, .slice a len cap, .string y] w fun e w' => e = .returned (.bool true) ∧ Below w.heap.size w w' := by
  have h0 : ((len : Int) == 0) = false := beq_eq_false_iff_ne.2 (by omega)
  go_enter Tryd.func8, Tryd.ntmps8
  go_wp2_with fail
  refine (known_true w hg).mono ?_
  rintro e w1 ⟨rfl, hb1⟩
  go_wp2_with fail
  go_ret
  exact ⟨rfl, hb1⟩

theorem own_frozen {w : World} {B g n cap : Nat} {xs : List Value} (h : w.ownsRow B 9 1 (.slice (some ⟨g, 0, none⟩) n cap) n xs) (j : Nat) : w.frozen? ⟨g, j, none⟩ = false := by
  rcases h.2 with ⟨h0, _⟩ | ⟨g', cap', cur, hv, hb, hg, _⟩
  · cases h0
  · cases hv
    simp [World.frozen?, hg]

set_option maxRecDepth 100000 in
set_option maxHeartbeats 2000000 in
theorem apart_walk (n : Int) (b off len cap : Nat) (ss : List ByteArray) (h1 : 1 ≤ len) (h10 : len ≤ 10) (y : ByteArray) (hy : y.size ≤ 140737488355327) (w : World) (hg : Glob w) (hss : ss.length = len)
    (hcell : ∀ j (hj : j < ss.length), w.cell? ⟨b, off + j, none⟩ = some (.string ss[j])) :
    Calls Tryd.prog 8 #[.int .i64 n, .slice (some ⟨b, off, none⟩) len cap, .string y] w fun e w' => e = .returned (.bool true) ∧ Below w.heap.size w w' := by
  have hl0 : ((len : Int) == 0) = false := beq_eq_false_iff_ne.2 (by omega)
  have hb := Int.emod_nonneg n (show (19 : Int) ≠ 0 by omega)
  have hk0 : (1 + n % 19 == 0) = false := beq_eq_false_iff_ne.2 (by omega)
  have hN := number_any n
  generalize 1 + n % 19 = k at *
  clear hb
  have HN := hide hN
  have HG := hide hg
  have HCell := hide hcell
  have HSS := hide hss
  clear hN hg hcell hss
  go_enter Tryd.func8, Tryd.ntmps8
  go_wp2_with fail
  refine (known_true w (unhide HG)).mono ?_
  rintro e w1 ⟨rfl, hb1⟩
  have HB1 := hide hb1
  have h0s : 0 < ss.length := by have := unhide HSS; omega
  have hs0 : w1.cell? ⟨b, off, none⟩ = some (.string ss[0]) := keep_below hb1 _ _ _ ((unhide HCell) 0 h0s)
  have HT : Hid ((ss.take 1).reverse = [ss[0]]) := by
    unfold Hid
    rw [List.take_one, List.head?_eq_getElem?, List.getElem?_eq_getElem h0s]; rfl
  generalize ss[0] = s0 at *
  clear hb1
  go_upto_region 5 with fail
  go_cut [7] (fun er wc => Chain wc (.iface 24 (.int .i64 k)) (ss.take 1).reverse er ∧ Below w.heap.size w wc)
  case first =>
    go_region_with (first
      | (go_at_call 10; refine (unhide HN _).mono ?_; rintro e w' ⟨rfl, rfl⟩)
      | (go_at_call 11; refine (new_num _ _ hk0 _).mono ?_; rintro e w' ⟨rfl, rfl⟩))
    all_goals go_wp2_with fail
    all_goals go_meet
    all_goals
      refine ⟨?_, ?_⟩
      · rw [unhide HT]
        exact ⟨_, _, rfl, by simp, by simp, rfl⟩
      · repeat (first | exact unhide HB1 | refine Below.drew ?_ | refine Below.alloc ?_ (by simpa using (unhide HB1).size) _)
  case rest =>
    obtain ⟨hc1, hbc⟩ := hcut
    have HC1 := hide hc1
    have HBC := hide hbc
    clear hc1 hbc hs0 HB1 HT
    go_wp2_with fail
    go_loopg [7, 8] (len - 1) (fun g er i wr => ∃ q : Nat, i = .int .i64 q ∧ 1 ≤ q ∧ q + g = len ∧ Chain wr (.iface 24 (.int .i64 k)) (ss.take q).reverse er ∧ Below w.heap.size w wr)
    case atStart => exact ⟨1, rfl, by omega, by omega, unhide HC1, unhide HBC⟩
    case round =>
      obtain ⟨q, rfl, hq1, hq, hc, hbel⟩ := hrel
      have HC := hide hc
      have HB := hide hbel
      have HG5 := hide (Glob.below (unhide HG) hbel)
      clear hc HC1 HBC
      have hpl : (ss.take q).reverse.length ≤ 10 := by have := unhide HSS; simp; omega
      by_cases hlt : (q : Int) < len
      · have hqs : q < ss.length := by have := unhide HSS; omega
        have hs : wr.cell? ⟨b, off + q, none⟩ = some (.string ss[q]) := keep_below hbel _ _ _ ((unhide HCell) q hqs)
        have HT : Hid ((ss.take (q + 1)).reverse = ss[q] :: (ss.take q).reverse) := by
          unfold Hid
          rw [List.take_succ_eq_append_getElem hqs, List.reverse_append]; rfl
        generalize ss[q] = s at *
        clear hbel
        go_wp2_with fail
        refine (wrap_new s _ (Or.inl ⟨k, rfl⟩) (ss.take q).reverse (by omega) _ _ (unhide HG5) (unhide HC)).mono ?_
        rintro e w5 ⟨nb, rfl, hnb, e0, e1, hb5⟩
        have HC5 : Hid (Chain w5 (.iface 24 (.int .i64 k)) (ss.take (q + 1)).reverse (.iface 44 (.pointer (some ⟨nb, 0, none⟩)))) := by
          unfold Hid
          rw [unhide HT]
          exact ⟨_, _, rfl, e0, e1, (unhide HC).keep (keep_below hb5)⟩
        have HB5 := hide (Below.far (unhide HB) hb5)
        clear e0 e1 hb5 hs hnb
        go_wp2_with fail
        go_roundg (gk - 1)
        case measure => omega
        case rel => exact ⟨q + 1, by go_num, by omega, by omega, unhide HC5, unhide HB5⟩
      · obtain rfl : q = len := by omega
        clear hbel
        have HPS : Hid ((ss.take q).reverse.length = q) := by have := unhide HSS; simp [Hid]; omega
        have HPI : Hid (∀ j (hj : j < (ss.take q).reverse.length), w.cell? ⟨b, off + (q - 1 - j), none⟩ = some (.string (ss.take q).reverse[j])) := by
          intro j hj
          have hl := unhide HSS
          have hj' : j < q := by simpa [hl] using hj
          rw [(unhide HCell) (q - 1 - j) (by omega)]
          simp [hl]
        generalize (ss.take q).reverse = ps at *
        have hh := unhide HPS
        clear HPS
        subst hh
        go_wp2_with fail
        refine (where_chain _ (Or.inl ⟨k, rfl⟩) ps (by omega) _ _ (unhide HG5) (unhide HC)).mono ?_
        rintro e w5 ⟨l5, rfl, ho5, hb5⟩
        obtain ⟨g5, cap5, rfl, hg5, hz5, hcap5, hcell5⟩ := own_list ho5 (by omega)
        have HF5 := hide (own_frozen ho5)
        have HL5 := hide hcell5
        have HB5 := hide (Below.far (unhide HB) hb5)
        have HC5 := hide ((unhide HC).keep (keep_below hb5))
        have HG6 := hide (Glob.below (unhide HG5) hb5)
        have HS5 := hide hb5
        clear ho5 hb5 hcell5
        go_wp2_with fail
        refine (wrap_new y _ (Or.inl ⟨k, rfl⟩) ps (by omega) _ _ (unhide HG6) (unhide HC5)).mono ?_
        rintro e w6 ⟨nb, rfl, hnb, e0, e1, hb6⟩
        have HE0 := hide e0
        have HE1 := hide e1
        have HB6 := hide (Below.far (unhide HB5) hb6)
        have HS6 : Hid (Below wr.heap.size wr w6) := Below.far (unhide HS5) hb6
        have HL6 : Hid (∀ j, j < ps.length → ∃ u, w6.cell? ⟨g5, j, none⟩ = some u ∧ w6.frozen? ⟨g5, j, none⟩ = false) := by
          intro j hj
          exact ⟨_, keep_below hb6 _ _ _ (unhide HL5 j hj), by rw [hb6.frozen hz5]; exact unhide HF5 j⟩
        have hz6 : w5.heap.size ≤ w6.heap.size := hb6.size
        clear e0 e1 hb6 HL5 HF5 HC5 HB5 HS5 HG6
        go_wp2_with fail
        go_loopg [11] ps.length (fun g i wx => ∃ z : Nat, i = .int .i64 z ∧ z + g = ps.length ∧ Below w.heap.size w wx ∧ (∀ b o u, b ≠ g5 → w6.cell? ⟨b, o, none⟩ = some u → wx.cell? ⟨b, o, none⟩ = some u) ∧ (∀ j, j < ps.length → ∃ u, wx.cell? ⟨g5, j, none⟩ = some u ∧ wx.frozen? ⟨g5, j, none⟩ = false))
        case atStart => exact ⟨0, rfl, by omega, unhide HB6, fun _ _ _ _ h => h, unhide HL6⟩
        case round =>
          obtain ⟨z, rfl, hz, hbx, hkx, hlx⟩ := hrel
          have HBX := hide hbx
          have HKX := hide hkx
          have HLX := hide hlx
          clear hbx hkx hlx HL6
          by_cases hlt2 : (z : Int) < ps.length
          · obtain ⟨u, hu, hfu⟩ := unhide HLX z (by omega)
            have HU := hide hu
            go_wp2_with fail
            go_roundg (gk - 1)
            case measure => omega
            case rel =>
              refine ⟨z + 1, by go_num, by omega, (unhide HBX).setCell (p := ⟨g5, z, none⟩) (Nat.le_trans (unhide HB).size hg5) _, ?_, ?_⟩
              · intro b o u hne h
                rw [World.cell?_setCell_other]
                · exact unhide HKX b o u hne h
                · intro h'; cases h'; exact hne rfl
              · intro j hj
                obtain ⟨u', hu', hf'⟩ := unhide HLX j hj
                obtain ⟨u2, hu2⟩ := cell?_setCell_some (p := ⟨g5, z, none⟩) (x := .string (y ++ ⟨#[120]⟩)) hu'
                exact ⟨u2, hu2, by simpa using hf'⟩
          · have HCX := hide ((unhide HC).keep (fun b o u h => unhide HKX b o u (Nat.ne_of_lt (Nat.lt_of_lt_of_le (blk_lt h) hg5)) (keep_below (unhide HS6) _ _ _ h)))
            have hne : nb ≠ g5 := by omega
            have HMX : Hid (Chain wr (.iface 24 (.int .i64 k)) (y :: ps) (.iface 44 (.pointer (some ⟨nb, 0, none⟩)))) := ⟨nb, _, rfl, unhide HKX _ _ _ hne (unhide HE0), unhide HKX _ _ _ hne (unhide HE1), unhide HCX⟩
            have HGX := hide (Glob.below (unhide HG) (unhide HBX))
            clear hne
            go_wp2_with fail
            refine (where_chain _ (Or.inl ⟨k, rfl⟩) ps (by omega) _ _ (unhide HGX) (unhide HCX)).mono ?_
            rintro e w8 ⟨l8, rfl, ho8, hb8⟩
            obtain ⟨gm, capm, rfl, hgm, hzm, hcapm, hcm⟩ := own_list ho8 (by omega)
            have HL8 := hide hcm
            have HB8 := hide (Below.far (unhide HBX) hb8)
            have HM8 := hide ((unhide HMX).keep (keep_below hb8))
            have HG8 := hide (Glob.below (unhide HGX) hb8)
            clear ho8 hb8 hcm hgm hzm
            go_wp2_with fail
            refine (where_chain _ (Or.inl ⟨k, rfl⟩) (y :: ps) (by simp; omega) _ _ (unhide HG8) (unhide HM8)).mono ?_
            rintro e w9 ⟨l9, rfl, ho9, hb9⟩
            obtain ⟨gn, capn, rfl, hgn, hzn, hcapn, hcn⟩ := own_list ho9 (by simp)
            have c9 : w9.cell? ⟨gn, 0, none⟩ = some (.string y) := hcn 0 (by simp)
            have HL9 : Hid (∀ j (hj : j < ps.length), w9.cell? ⟨gm, j, none⟩ = some (.string ps[j])) := fun j hj => keep_below hb9 _ _ _ (unhide HL8 j hj)
            have HN9 : Hid (∀ j (hj : j < ps.length), w9.cell? ⟨gn, j + 1, none⟩ = some (.string ps[j])) := fun j hj => hcn (j + 1) (by simp; omega)
            have HB9 := hide (Below.far (unhide HB8) hb9)
            clear ho9 hb9 hcn hgn hzn
            rw [List.length_cons] at hcapn
            rw [List.length_cons]
            go_wp2_with fail
            go_loopg [14] ps.length (fun g i wx => ∃ z : Nat, i = .int .i64 z ∧ z + g = ps.length ∧ Below w.heap.size w wx ∧ (∀ j (hj : j < ps.length), wx.cell? ⟨gm, j, none⟩ = some (.string ps[j])) ∧ (∀ j (hj : j < ps.length), wx.cell? ⟨gn, j + 1, none⟩ = some (.string ps[j])))
            case atStart => exact ⟨0, rfl, by omega, unhide HB9, unhide HL9, unhide HN9⟩
            case round =>
              obtain ⟨t, rfl, ht, hbr, hlr, hnr⟩ := hrel
              have HBR := hide hbr
              have HLR := hide hlr
              have HNR := hide hnr
              clear hbr hlr hnr HB9 HL9 HN9 c9
              by_cases hlt3 : (t : Int) < ps.length
              · have f1 : wr.cell? ⟨gm, t, none⟩ = some (.string ps[t]) := unhide HLR t (by omega)
                have f2 : wr.cell? ⟨gn, t + 1, none⟩ = some (.string ps[t]) := unhide HNR t (by omega)
                have f3 : wr.cell? ⟨b, off + (ps.length - 1 - t), none⟩ = some (.string ps[t]) := keep_below (unhide HBR) _ _ _ (unhide HPI t (by omega))
                generalize ps[t] = pq at *
                have hlo : (0 : Int) ≤ (ps.length : Int) - 1 - (t : Int) := by omega
                have hhi : (ps.length : Int) - 1 - (t : Int) < (ps.length : Int) := by omega
                go_wp2_with fail
                go_quiet (fail)
                go_wp2_with fail
                go_roundg (gk - 1)
                case measure => omega
                case rel => exact ⟨t + 1, by go_num, by omega, below_drewN (unhide HBR) _, unhide HLR, unhide HNR⟩
              · go_wp2_with fail
                go_ret
                exact ⟨rfl, unhide HBR⟩
end Go.Proofs.YteabloaipoehoaaDoor
