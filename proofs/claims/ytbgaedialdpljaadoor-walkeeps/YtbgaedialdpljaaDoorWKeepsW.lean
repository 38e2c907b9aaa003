/- The walk of WalKeeps. -/
import Derived.Test.YtbgaedialdpljaaDoorWLaws
namespace Go.Proofs.YtbgaedialdpljaaDoor
open Go.RowKit

set_option maxRecDepth 20000 in
set_option maxHeartbeats 8000000 in
theorem keeps_walk (aob : Option Addr) (nb cb : Nat) (xb : List (List Nat)) (hnb : xb.length = nb) (aor : Option Addr) (nr cr : Nat) (xr : List (List Nat)) (hnr : xr.length = nr) (aoa : Option Addr) (na ca : Nat) (xa : List (List Nat)) (hna : xa.length = na) (sy : Bool)
    (g a : Addr) (w : World) (hb : RowsArg w aob xb) (hr : RowsArg w aor xr) (ha : RowsArg w aoa xa) (hS : Start w g a) :
    Calls Tryd.prog 7 #[.slice aob nb cb, .slice aor nr cr, .slice aoa na ca, .bool sy] w fun e w' => e = .returned (.bool true) ∧ Below w.heap.size w w' := by
  have HS := hide hS
  have hz := hS.low
  obtain ⟨nB, hB1⟩ : ∃ n, (smallOf xb).length = n := ⟨_, rfl⟩
  obtain ⟨nR, hR1⟩ : ∃ n, (smallOf xr).length = n := ⟨_, rfl⟩
  obtain ⟨nA, hA1⟩ : ∃ n, (smallOf xa).length = n := ⟨_, rfl⟩
  have hsB := fun w' b => small_any w aob nb cb xb hnb w' hb b nB hB1
  have hsR := fun w' b => small_any w aor nr cr xr hnr w' hr b nR hR1
  have hsA := fun w' b => small_any w aoa na ca xa hna w' ha b nA hA1
  have fB := fit_small hb
  have fR := fit_small hr
  have fA := fit_small ha
  have tB := takes_small xb
  have tR := takes_small xr
  have tA := takes_small xa
  have lB := smallOf_len xb
  have lR := smallOf_len xr
  have lA := smallOf_len xa
  rw [hB1] at lB
  rw [hR1] at lR
  rw [hA1] at lA
  generalize smallOf xb = XB at *
  generalize smallOf xr = XR at *
  generalize smallOf xa = XA at *
  have SB := hide hsB
  have SR := hide hsR
  have SA := hide hsA
  have FB := hide fB
  have FR := hide fR
  have FA := hide fA
  have HB1 := hide hB1
  have HR1 := hide hR1
  have HA1 := hide hA1
  obtain ⟨kR, hkR⟩ : ∃ kR, takes XR = kR := ⟨_, rfl⟩
  have KR := hide hkR
  have hkR2 : kR ≤ 2464 := by omega
  have TB := hide tB
  have TA := hide tA
  clear hS hb hr ha hnb hnr hna hsB hsR hsA fB fR fA hB1 hR1 hA1 hkR tB tA tR
  go_enter Tryd.func7, Tryd.ntmps7
  go_wp2_with fail
  refine (known_any g a w (unhide HS)).mono ?_
  rintro e w1 ⟨rfl, b1⟩
  have S1 := hide ((unhide HS).below b1)
  have B1 := hide b1
  have s1 := b1.size
  have z1 : 4 ≤ w1.heap.size := Nat.le_trans hz s1
  clear b1
  go_wp2_with fail
  refine (new_ok 1048576 w1 (by decide) (by decide)).mono ?_
  rintro e w2 ⟨rfl, t2, b2⟩
  have s2 := b2.size
  have S2 := hide ((unhide S1).below b2)
  have B2 := hide ((unhide B1).trans (b2.mono s1))
  have HC := hide (nopen w1.heap.size w1.heap.size none 1048576 0 0 0 [] g a w2 t2 (unhide S2) s2 Fit.nil rfl (by decide))
  clear t2 b2
  go_wp2_with fail
  refine (unhide HC).mono ?_
  rintro e w3 ⟨l, rfl, hl, l3, b3⟩
  have s3 : w1.heap.size ≤ w3.heap.size := Nat.le_trans s2 b3.size
  have L3 := hide l3
  have B3 := hide ((unhide B2).trans (b3.mono (unhide B2).size))
  clear l3 b3 HC
  go_wp2_with fail
  refine (unhide SB w3 (unhide B3)).mono ?_
  rintro e w4 ⟨aoB, cB, vB, rfl, o4, rv4, nl4, b4⟩
  have OB := hide (own_rebase o4 s3)
  have RB := hide rv4
  have L4 := hide ((unhide L3).below b4)
  have B4 := hide ((unhide B3).trans (b4.mono (unhide B3).size))
  have s4 : w1.heap.size ≤ w4.heap.size := Nat.le_trans s3 b4.size
  clear o4 rv4 nl4 b4
  go_wp2_with fail
  refine (unhide SR w4 (unhide B4)).mono ?_
  rintro e w5 ⟨aoR, cR, vR, rfl, o5, rv5, nl5, b5⟩
  have OB5 := hide (own_below (unhide OB) b5)
  have OR := hide (own_rebase o5 s4)
  have RR := hide rv5
  have NR := hide nl5
  have L5 := hide ((unhide L4).below b5)
  have B5 := hide ((unhide B4).trans (b5.mono (unhide B4).size))
  have s5 : w1.heap.size ≤ w5.heap.size := Nat.le_trans s4 b5.size
  clear o5 rv5 nl5 b5 OB
  go_wp2_with fail
  refine (unhide SA w5 (unhide B5)).mono ?_
  rintro e w6 ⟨aoA, cA, vA, rfl, o6, rv6, nl6, b6⟩
  have OB6 := hide (own_below (unhide OB5) b6)
  have OR6 := hide (own_below (unhide OR) b6)
  have OA6 := hide (own_rebase o6 s5)
  have RA := hide rv6
  have NA := hide nl6
  have L6 := hide ((unhide L5).below b6)
  have B6 := hide ((unhide B5).trans (b6.mono (unhide B5).size))
  have s6 : w1.heap.size ≤ w6.heap.size := Nat.le_trans s5 b6.size
  clear o6 rv6 nl6 b6 OB5 OR L3 L4 L5 B1 B2 B3 B4 B5 S1 S2
  go_wp2_with fail
  go_loopg [13] nB (fun gg iv wr => ∃ (i n : Nat) (q : Option Nat), gg = nB - i ∧ i ≤ nB ∧ iv = .int .i64 i ∧ takes (XB.take i) = n ∧ Lg w1.heap.size wr l w1.heap.size q (Ls 1048576 (XB.take i) 0 i) n ∧ wr.ownsRow w1.heap.size 32 1 (.slice aoB nB cB) nB vB ∧ wr.ownsRow w1.heap.size 32 1 (.slice aoR nR cR) nR vR ∧ wr.ownsRow w1.heap.size 32 1 (.slice aoA nA cA) nA vA ∧ Below w.heap.size w wr ∧ w1.heap.size ≤ wr.heap.size)
  case atStart => exact ⟨0, 0, none, rfl, Nat.zero_le _, rfl, rfl, unhide L6, unhide OB6, unhide OR6, unhide OA6, unhide B6, s6⟩
  case round =>
    obtain ⟨i, n, q, hg, hi, rfl, hn, lg, ob, orr, oa, br, sr⟩ := hrel
    have HG := hide hg
    have HN := hide hn
    have LG := hide lg
    have OB := hide ob
    have OR := hide orr
    have OA := hide oa
    have BR := hide br
    have hnf : n ≤ 2464 := by have := takes_front XB i; have := unhide TB; omega
    clear hg hn lg ob orr oa br L6 OB6 OR6 OA6 B6
    by_cases hlt : i < nB
    · have hix : i < XB.length := by rw [unhide HB1]; exact hlt
      obtain ⟨ad, r, cx, rfl, hc, hby, hcx, hnx⟩ := rows_at (unhide OB) (unhide HB1) ((unhide RB).below (unhide BR)) i hix
      have hsu := take_succ XB [] i hix
      have hfx := (unhide FB _ (getD_mem hix)).2
      have htk := takes_front XB (i + 1)
      generalize XB.getD i [] = x at *
      obtain ⟨lx, hlx⟩ : ∃ lx, x.length = lx := ⟨_, rfl⟩
      rw [hlx] at hc hcx hfx
      have htk2 : takes (XB.take (i + 1)) = n + (8 + lx) := by rw [hsu, takes_snoc, unhide HN, hlx]
      have hnl : n + (8 + lx) ≤ 2464 := by have := unhide TB; omega
      have HSU := hide hsu
      have HLX := hide hlx
      have HTK := hide htk2
      have HBY := hide hby
      have HNX := hide hnx
      clear hsu hlx htk htk2 hby hnx hix
      go_wp2_with fail
      refine (nappend w1.heap.size l w1.heap.size q 1048576 0 i n (XB.take i) g a r lx cx x (unhide HLX) wr (unhide LG) ((unhide HS).below (unhide BR)) z1 sr (unhide HN) (by omega) (unhide HBY) (unhide HNX) hcx hfx (by decide) (by omega)).mono ?_
      rintro e w7 ⟨q7, rfl, l7, k7, _⟩
      have L7 := hide l7
      have OB7 := hide ((unhide LG).rows (unhide OB) k7)
      have OR7 := hide ((unhide LG).rows (unhide OR) k7)
      have OA7 := hide ((unhide LG).rows (unhide OA) k7)
      have B7 := hide ((unhide BR).trans (k7.1.mono s1))
      have s7 : w1.heap.size ≤ w7.heap.size := Nat.le_trans sr k7.size
      clear l7 k7
      go_wp2
      go_roundg (nB - (i + 1))
      case measure => have := unhide HG; omega
      case rel => exact ⟨i + 1, n + (8 + lx), q7, rfl, by omega, by go_num, unhide HTK, by rw [unhide HSU]; exact unhide L7, unhide OB7, unhide OR7, unhide OA7, unhide B7, s7⟩
    · have ei : i = nB := by omega
      subst ei
      have etk : XB.take i = XB := List.take_of_length_le (by rw [unhide HB1]; omega)
      rw [etk] at LG HN
      have RA7 := hide (rows_at (unhide OR) (unhide HR1) ((unhide RR).below (unhide BR)))
      clear etk hlt
      go_wp2_with fail
      refine (nkeep w1.heap.size l w1.heap.size q 1048576 0 i n kR XB XR g a aoR nR cR (unhide HR1) wr (unhide LG) ((unhide HS).below (unhide BR)) sr (by omega) (unhide RA7) (unhide FR) (by omega) (unhide KR) (by omega)).mono ?_
      rintro e w7 ⟨q7, rfl, l7, k7, _⟩
      have OR7 := hide ((unhide LG).rows (unhide OR) k7)
      have OA7 := hide ((unhide LG).rows (unhide OA) k7)
      have B7 := hide ((unhide BR).trans (k7.1.mono s1))
      have L7 := hide l7
      have s7 : w1.heap.size ≤ w7.heap.size := Nat.le_trans sr k7.size
      have b8 : Below w7.heap.size w7 (w7.alloc (.cells #[] 32)) := (Below.refl _ w7).alloc (Nat.le_refl _) _
      have OR8 := hide (own_below (unhide OR7) b8)
      have E8 := hide (rows_empty w1.heap.size w7 s7)
      have s8 : w1.heap.size ≤ (w7.alloc (.cells #[] 32)).heap.size := Nat.le_trans s7 b8.size
      have hvl : vR.length = nR := by rw [(unhide RR).1]; exact unhide HR1
      have HVL := hide hvl
      clear l7 k7 RA7 hvl b8 LG OB OR OA BR HG HN
      go_wp2_with (at_builtin; refine wpList_append_rows rfl (.tmp 54) (.tmp 55) rfl w1.heap.size _ [] 0 rfl (unhide E8) aoR nR cR vR rfl (unhide HVL) (rows_cells (unhide OR8)) (unhide RR).one (unhide NR) (by omega) s8 ?_)
      intro aoW cW w9 o9 k9 _
      have b9 := below_new k9 (fun k hk => by simp only [Value.ownBlock, Option.some.injEq] at hk; omega)
      have L9 := hide ((unhide L7).below b9)
      have OA9 := hide (own_below (unhide OA7) b9)
      have OW9 : Hid (w9.ownsRow w1.heap.size 32 1 (.slice aoW nR cW) nR vR) := by
        show w9.ownsRow w1.heap.size 32 1 (.slice aoW nR cW) nR vR
        simpa using o9
      have B9 := hide ((unhide B7).trans (b9.mono (unhide B7).size))
      have s9 : w1.heap.size ≤ w9.heap.size := Nat.le_trans s7 b9.size
      clear o9 k9 b9 L7 OA7 OR7 OR8 E8 B7
      go_wp2_with fail
      go_loopg [15] nA (fun gg jv wr => ∃ (j m : Nat) (q : Option Nat), gg = nA - j ∧ j ≤ nA ∧ jv = .int .i64 j ∧ takes (XR ++ XA.take j) = m ∧ Lg w1.heap.size wr l w1.heap.size q (Ls 1048576 (XR ++ XA.take j) kR (i + 1 + j)) m ∧ wr.ownsRow w1.heap.size 32 1 (.slice aoW nR cW) nR vR ∧ wr.ownsRow w1.heap.size 32 1 (.slice aoA nA cA) nA vA ∧ Below w.heap.size w wr ∧ w1.heap.size ≤ wr.heap.size)
      case atStart => exact ⟨0, kR, q7, rfl, Nat.zero_le _, rfl, by simpa using unhide KR, by simpa using unhide L9, unhide OW9, unhide OA9, unhide B9, s9⟩
      case round =>
        obtain ⟨j, m, q, hg, hj, rfl, hm, lg, ow, oa, br, sr⟩ := hrel
        have HG := hide hg
        have HM := hide hm
        have LG := hide lg
        have OW := hide ow
        have OA := hide oa
        have BR := hide br
        have hmf : m ≤ 4928 := by have := takes_front XA j; rw [takes_append, unhide KR] at hm; have := unhide TA; omega
        clear hg hm lg ow oa br L9 OW9 OA9 B9
        by_cases hlt : j < nA
        · have hix : j < XA.length := by rw [unhide HA1]; exact hlt
          obtain ⟨ad, r, cx, rfl, hc, hby, hcx, hnx⟩ := rows_at (unhide OA) (unhide HA1) ((unhide RA).below (unhide BR)) j hix
          have hsu := take_succ XA [] j hix
          have hfx := (unhide FA _ (getD_mem hix)).2
          have htk := takes_front XA (j + 1)
          generalize XA.getD j [] = x at *
          obtain ⟨lx, hlx⟩ : ∃ lx, x.length = lx := ⟨_, rfl⟩
          rw [hlx] at hc hcx hfx
          have hsu2 : XR ++ XA.take (j + 1) = XR ++ XA.take j ++ [x] := by rw [hsu, List.append_assoc]
          have htk2 : takes (XR ++ XA.take (j + 1)) = m + (8 + lx) := by rw [hsu2, takes_snoc, unhide HM, hlx]
          have hnl : m + (8 + lx) ≤ 4928 := by rw [← htk2, takes_append, unhide KR]; have := unhide TA; omega
          have HSU := hide hsu2
          have HLX := hide hlx
          have HTK := hide htk2
          have HBY := hide hby
          have HNX := hide hnx
          clear hsu hsu2 hlx htk htk2 hby hnx hix
          go_wp2_with fail
          refine (nappend w1.heap.size l w1.heap.size q 1048576 kR (i + 1 + j) m (XR ++ XA.take j) g a r lx cx x (unhide HLX) wr (unhide LG) ((unhide HS).below (unhide BR)) z1 sr (unhide HM) (by omega) (unhide HBY) (unhide HNX) hcx hfx (by decide) (by omega)).mono ?_
          rintro e wa ⟨qa, rfl, la, ka, _⟩
          have La := hide la
          have OWa := hide ((unhide LG).rows (unhide OW) ka)
          have OAa := hide ((unhide LG).rows (unhide OA) ka)
          have Ba := hide ((unhide BR).trans (ka.1.mono s1))
          have sa : w1.heap.size ≤ wa.heap.size := Nat.le_trans sr ka.size
          clear la ka
          go_wp2
          go_roundg (nA - (j + 1))
          case measure => have := unhide HG; omega
          case rel => exact ⟨j + 1, m + (8 + lx), qa, rfl, by omega, by go_num, unhide HTK, by rw [unhide HSU]; exact unhide La, unhide OWa, unhide OAa, unhide Ba, sa⟩
        · have ej : j = nA := by omega
          subst ej
          have etk : XA.take j = XA := List.take_of_length_le (by rw [unhide HA1]; omega)
          rw [etk] at LG HM
          clear etk hlt HG
          cases sy with
          | true =>
            have hvl : vA.length = j := by rw [(unhide RA).1]; exact unhide HA1
            have HVL := hide hvl
            clear hvl
            go_wp2_with (at_builtin; refine wpList_append_rows rfl (.tmp 71) (.tmp 72) rfl w1.heap.size _ vR nR rfl (unhide OW) aoA j cA vA rfl (unhide HVL) (rows_cells (unhide OA)) (unhide RA).one (unhide NA) (by omega) sr ?_)
            intro aoV cV wa oa' ka _
            have La := hide ((unhide LG).grown (unhide OW) ka)
            have OV : Hid (wa.ownsRow w1.heap.size 32 1 (.slice aoV (nR + j) cV) (nR + j) (vR ++ vA)) := oa'
            have Ba := hide ((unhide BR).trans (ka.1.mono s1))
            have sa : w1.heap.size ≤ wa.heap.size := Nat.le_trans sr ka.size
            have XL : Hid ((XR ++ XA).length = nR + j) := by show _ = _; rw [List.length_append, unhide HR1, unhide HA1]
            have RX := hide ((unhide RR).append (unhide RA))
            have FX := hide ((unhide FR).append (unhide FA))
            clear oa' ka LG OW OA BR
            go_wp2_with fail
            refine (nsync w1.heap.size l w1.heap.size q 1048576 kR (i + 1 + j) m (XR ++ XA) g a wa (unhide La) ((unhide HS).below (unhide Ba)) sa (unhide HM) (by omega)).mono ?_
            rintro e wb ⟨rfl, lb, kb⟩
            have OVb := hide ((unhide La).tape.rows (unhide OV) kb)
            have Bb := hide ((unhide Ba).trans (kb.1.mono s1))
            have sb : w1.heap.size ≤ wb.heap.size := Nat.le_trans sa kb.size
            have ecr := crash_none 1048576 (XR ++ XA) [] (i + 1 + j + 1)
            rw [List.append_nil, unhide HM] at ecr
            have ecr1 : (Ls 1048576 (XR ++ XA) m (i + 1 + j + 1)).crash 0 = Ls 1048576 (XR ++ XA) m (i + 1 + j + 1) := ecr.1
            have ecr2 : (Ls 1048576 (XR ++ XA) m (i + 1 + j + 1)).kept 0 = 0 := ecr.2
            have hcr := crash_any w1.heap.size w1.heap.size q _ 0 wb lb.tape
            rw [ecr1, ecr2] at hcr
            have HCR := hide hcr
            have TB' := hide lb.tape
            clear lb kb ecr ecr1 ecr2 hcr La OV Ba
            go_wp2_with fail
            refine (unhide HCR).mono ?_
            rintro e wc ⟨rfl, tc, kc⟩
            have OVc := hide ((unhide TB').rows (unhide OVb) kc)
            have Bc := hide ((unhide Bb).trans (kc.1.mono s1))
            have sc : w1.heap.size ≤ wc.heap.size := Nat.le_trans sb kc.size
            have Sc := hide ((unhide HS).below (unhide Bc))
            have HOP := hide (nopen w1.heap.size w1.heap.size q 1048576 (m) (i + 1 + j + 1) (m) (XR ++ XA) g a wc tc (unhide Sc) sc (unhide FX) (unhide HM) (by decide))
            clear tc kc HCR TB' OVb Bb
            go_wp2_with fail
            refine (unhide HOP).mono ?_
            rintro e wd ⟨l', rfl, hl', ld, bd⟩
            have OVd := hide (own_below (unhide OVc) bd)
            have Bd := hide ((unhide Bc).trans (bd.mono (unhide Bc).size))
            have Sd := hide ((unhide Sc).below bd)
            have Ld := hide ld
            clear ld bd HOP OVc Bc Sc
            go_wp2_with fail
            refine (nall w1.heap.size l' w1.heap.size q 1048576 (m) (i + 1 + j + 1) (m) (XR ++ XA) g a wd (unhide Ld) (unhide Sd) (unhide FX) (unhide HM) (by decide) (nR + j) (unhide XL)).mono ?_
            rintro e we ⟨aoe, cae, rfl, re, _, be⟩
            have OVe := hide (own_below (unhide OVd) be)
            have Be := hide ((unhide Bd).trans (be.mono (unhide Bd).size))
            have Le := hide ((unhide Ld).below be)
            have RE := hide re
            clear re be OVd Bd Ld Sd
            have rve := rows_at (unhide OVe) (unhide XL) ((unhide RX).below (unhide Be))
            have RVE := hide rve
            clear rve
            go_wp2_with fail
            refine (same_any aoe aoV (nR + j) (nR + j) cae cV (XR ++ XA) (XR ++ XA) (unhide XL) (unhide XL) we (unhide RE) (unhide RVE) (by omega) (by omega)).mono ?_
            rintro e wf ⟨bb, rfl, hbb, bf⟩
            obtain rfl := hbb rfl
            have Bf := hide ((unhide Be).trans (bf.mono (unhide Be).size))
            have RVf := hide ((unhide RVE).upto bf)
            have Lf := hide ((unhide Le).below bf)
            clear hbb bf RE RVE Be Le OVe
            go_wp2_with fail
            refine (wsize_any w1.heap.size l' w1.heap.size q _ (m) wf (unhide Lf)).mono ?_
            rintro e wf' ⟨rfl, rfl⟩
            have hsz := size_any aoV (nR + j) cV (XR ++ XA) (unhide XL) wf' (unhide RVf) (unhide FX) (by omega)
            rw [unhide HM] at hsz
            have HSZ := hide hsz
            clear hsz
            go_wp2_with fail
            refine (unhide HSZ).mono ?_
            rintro e wg ⟨rfl, rfl⟩
            go_wp2_with fail
            refine (bytes_own w1.heap.size w1.heap.size q (Ls 1048576 (XR ++ XA) (m) (i + 1 + j + 1)) (cats (XR ++ XA)) (m) rfl ((cats_len _).trans (unhide HM)) wg (unhide Lf).tape).mono ?_
            rintro e wh ⟨aoh, cah, rfl, _, bh⟩
            have Bh := hide ((unhide Bf).trans (bh.mono (unhide Bf).size))
            have hsz := size_any aoV (nR + j) cV (XR ++ XA) (unhide XL) wh ((unhide RVf).upto bh) (unhide FX) (by omega)
            rw [unhide HM] at hsz
            have HSZ2 := hide hsz
            clear hsz bh HSZ
            go_wp2_with fail
            refine (unhide HSZ2).mono ?_
            rintro e wg ⟨rfl, rfl⟩
            go_wp2
            go_ret
            exact ⟨rfl, unhide Bh⟩
          | false =>
            have ecr := crash_none 1048576 XR XA (i + 1 + j)
            rw [unhide KR] at ecr
            have ecr1 : (Ls 1048576 (XR ++ XA) kR (i + 1 + j)).crash 0 = Ls 1048576 XR kR (i + 1 + j) := ecr.1
            have ecr2 : (Ls 1048576 (XR ++ XA) kR (i + 1 + j)).kept 0 = 0 := ecr.2
            have hcr := crash_any w1.heap.size w1.heap.size q _ 0 wr (unhide LG).tape
            rw [ecr1, ecr2] at hcr
            have HCR := hide hcr
            obtain ⟨wb, hwb⟩ : ∃ wb, wr = wb := ⟨_, rfl⟩
            subst hwb
            have TB' := hide (unhide LG).tape
            have XL := HR1
            have RX := RR
            have FX := FR
            have HMX := KR
            have OVb := OW
            have Bb := BR
            have sb := sr
            clear ecr ecr1 ecr2 hcr LG OA
            go_wp2_with fail
            refine (unhide HCR).mono ?_
            rintro e wc ⟨rfl, tc, kc⟩
            have OVc := hide ((unhide TB').rows (unhide OVb) kc)
            have Bc := hide ((unhide Bb).trans (kc.1.mono s1))
            have sc : w1.heap.size ≤ wc.heap.size := Nat.le_trans sb kc.size
            have Sc := hide ((unhide HS).below (unhide Bc))
            have HOP := hide (nopen w1.heap.size w1.heap.size q 1048576 (kR) (i + 1 + j) (kR) (XR) g a wc tc (unhide Sc) sc (unhide FX) (unhide HMX) (by decide))
            clear tc kc HCR TB' OVb Bb
            go_wp2_with fail
            refine (unhide HOP).mono ?_
            rintro e wd ⟨l', rfl, hl', ld, bd⟩
            have OVd := hide (own_below (unhide OVc) bd)
            have Bd := hide ((unhide Bc).trans (bd.mono (unhide Bc).size))
            have Sd := hide ((unhide Sc).below bd)
            have Ld := hide ld
            clear ld bd HOP OVc Bc Sc
            go_wp2_with fail
            refine (nall w1.heap.size l' w1.heap.size q 1048576 (kR) (i + 1 + j) (kR) (XR) g a wd (unhide Ld) (unhide Sd) (unhide FX) (unhide HMX) (by decide) (nR) (unhide XL)).mono ?_
            rintro e we ⟨aoe, cae, rfl, re, _, be⟩
            have OVe := hide (own_below (unhide OVd) be)
            have Be := hide ((unhide Bd).trans (be.mono (unhide Bd).size))
            have Le := hide ((unhide Ld).below be)
            have RE := hide re
            clear re be OVd Bd Ld Sd
            have rve := rows_at (unhide OVe) (unhide XL) ((unhide RX).below (unhide Be))
            have RVE := hide rve
            clear rve
            go_wp2_with fail
            refine (same_any aoe aoW (nR) (nR) cae cW (XR) (XR) (unhide XL) (unhide XL) we (unhide RE) (unhide RVE) (by omega) (by omega)).mono ?_
            rintro e wf ⟨bb, rfl, hbb, bf⟩
            obtain rfl := hbb rfl
            have Bf := hide ((unhide Be).trans (bf.mono (unhide Be).size))
            have RVf := hide ((unhide RVE).upto bf)
            have Lf := hide ((unhide Le).below bf)
            clear hbb bf RE RVE Be Le OVe
            go_wp2_with fail
            refine (wsize_any w1.heap.size l' w1.heap.size q _ (kR) wf (unhide Lf)).mono ?_
            rintro e wf' ⟨rfl, rfl⟩
            have hsz := size_any aoW (nR) cW (XR) (unhide XL) wf' (unhide RVf) (unhide FX) (by omega)
            rw [unhide HMX] at hsz
            have HSZ := hide hsz
            clear hsz
            go_wp2_with fail
            refine (unhide HSZ).mono ?_
            rintro e wg ⟨rfl, rfl⟩
            go_wp2_with fail
            refine (bytes_own w1.heap.size w1.heap.size q (Ls 1048576 (XR) (kR) (i + 1 + j)) (cats (XR)) (kR) rfl ((cats_len _).trans (unhide HMX)) wg (unhide Lf).tape).mono ?_
            rintro e wh ⟨aoh, cah, rfl, _, bh⟩
            have Bh := hide ((unhide Bf).trans (bh.mono (unhide Bf).size))
            have hsz := size_any aoW (nR) cW (XR) (unhide XL) wh ((unhide RVf).upto bh) (unhide FX) (by omega)
            rw [unhide HMX] at hsz
            have HSZ2 := hide hsz
            clear hsz bh HSZ
            go_wp2_with fail
            refine (unhide HSZ2).mono ?_
            rintro e wg ⟨rfl, rfl⟩
            go_wp2
            go_ret
            exact ⟨rfl, unhide Bh⟩
end Go.Proofs.YtbgaedialdpljaaDoor
