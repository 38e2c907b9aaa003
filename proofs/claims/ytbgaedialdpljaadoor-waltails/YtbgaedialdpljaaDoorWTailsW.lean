/- The walk of WalTails. -/
import Derived.Test.YtbgaedialdpljaaDoorWLaws
namespace Go.Proofs.YtbgaedialdpljaaDoor
open Go.RowKit

/-- what a crash leaves of records, the last of which was not synced. -/
theorem crash_last (room : Nat) (xs : List (List Nat)) (x : List Nat) (ops k : Nat) (pick : Int) (hx : x.length ≤ 65536) (hk : takes xs = k) : ∃ c, c ≤ 8 + x.length ∧ (Ls room (xs ++ [x]) k ops).kept pick = c ∧ (Ls room (xs ++ [x]) k ops).crash pick = ⟨room, cats xs ++ (frame x).take c, k + c, ops, 0, false⟩ ∧ (c < 8 + x.length → frameOf ((frame x).take c) = (0, none)) ∧ (c = 8 + x.length → cats xs ++ (frame x).take c = cats (xs ++ [x]) ++ []) := by
  have hs : (Ls room (xs ++ [x]) k ops).syn ≤ (Ls room (xs ++ [x]) k ops).bs.length := by simp only [Ls, cats_len, takes_snoc, hk]; omega
  have h2 := (kept_spec (Ls room (xs ++ [x]) k ops) pick hs).2
  have h3 : k + (Ls room (xs ++ [x]) k ops).kept pick ≤ k + (8 + x.length) := by simpa only [Ls, cats_len, takes_snoc, hk] using h2
  refine ⟨_, by omega, rfl, ?_, fun h => frameOf_cut hx _ h, fun h => ?_⟩
  · unfold St.crash
    simp only [Ls, cats_snoc]
    rw [List.take_append, List.take_of_length_le (by rw [cats_len, hk]; omega), cats_len, hk, Nat.add_sub_cancel_left]
  · rw [h, List.take_of_length_le (by rw [frame_length]; omega), cats_snoc, List.append_nil]

set_option maxRecDepth 20000 in
theorem tails_long (aor : Option Addr) (nr cr : Nat) (xr : List (List Nat)) (hnr : xr.length = nr) (keep : Int) (aom : Option Addr) (nm cm : Nat) (g a : Addr) (w : World) (hr : RowsArg w aor xr) (hl : 300 < nm) (hS : Start w g a) :
    Calls Tryd.prog 8 #[.slice aor nr cr, .int .i64 keep, .slice aom nm cm] w fun e w' => e = .returned (.bool true) ∧ Below w.heap.size w w' := by
  have HS := hide hS
  have hsR := fun w' b => small_any w aor nr cr xr hnr w' hr b _ rfl
  have SR := hide hsR
  clear hS hr hnr hsR
  go_enter Tryd.func8, Tryd.ntmps8
  go_wp2_with fail
  refine (known_any g a w (unhide HS)).mono ?_
  rintro e w1 ⟨rfl, b1⟩
  go_wp2_with fail
  refine (unhide SR w1 b1).mono ?_
  rintro e w2 ⟨aoR, cR, vR, rfl, _, _, _, b2⟩
  have B2 := hide (b1.trans (b2.mono b1.size))
  clear b1 b2
  go_wp2
  go_ret
  exact ⟨rfl, unhide B2⟩

set_option maxRecDepth 20000 in
set_option maxHeartbeats 8000000 in
theorem tails_walk (aor : Option Addr) (nr cr : Nat) (xr : List (List Nat)) (hnr : xr.length = nr) (keep : Int) (aom : Option Addr) (nm cm : Nat) (bm : List Nat) (hnm : bm.length = nm)
    (g a : Addr) (w : World) (hr : RowsArg w aor xr) (hm : Bytes w aom bm) (hcm : nm ≤ cm) (hnone : aom = none → cm = 0) (hl : nm ≤ 300) (hS : Start w g a) :
    Calls Tryd.prog 8 #[.slice aor nr cr, .int .i64 keep, .slice aom nm cm] w fun e w' => e = .returned (.bool true) ∧ Below w.heap.size w w' := by
  have hcv := fun (w : World) (C : Array Value) (n c : Nat) => Lib.run_convert_bytes_const (P := Tryd.prog) w 32 5 C n c Tryd.underlying32 Tryd.underlying5
  have HS := hide hS
  have hz := hS.low
  obtain ⟨nR, hR1⟩ : ∃ n, (smallOf xr).length = n := ⟨_, rfl⟩
  have hsR := fun w' b => small_any w aor nr cr xr hnr w' hr b nR hR1
  have fR := fit_small hr
  have tR := takes_small xr
  have lR := smallOf_len xr
  rw [hR1] at lR
  generalize smallOf xr = XR at *
  have SR := hide hsR
  have FR := hide fR
  have HR1 := hide hR1
  obtain ⟨kR, hkR⟩ : ∃ kR, takes XR = kR := ⟨_, rfl⟩
  have KR := hide hkR
  have hkR2 : kR ≤ 2464 := by omega
  have TR := hide tR
  have HNM := hide hnm
  have YM := hide hm
  have NM := hide hnone
  clear hS hr hnr hsR fR hR1 hkR tR hnm hm hnone
  go_enter Tryd.func8, Tryd.ntmps8
  go_wp2_with fail
  refine (known_any g a w (unhide HS)).mono ?_
  rintro e w1 ⟨rfl, b1⟩
  have B1 := hide b1
  have s1 := b1.size
  clear b1
  go_wp2_with fail
  refine (unhide SR w1 (unhide B1)).mono ?_
  rintro e w2 ⟨aoR, cR, vR, rfl, o2, rv2, nl2, b2⟩
  have OR2 := hide o2
  have RR := hide rv2
  have NR := hide nl2
  have B2 := hide ((unhide B1).trans (b2.mono s1))
  have s2 : w.heap.size ≤ w2.heap.size := (unhide B2).size
  have s12 := b2.size
  have z2 : 4 ≤ w2.heap.size := Nat.le_trans hz s2
  clear o2 rv2 nl2 b2 B1
  go_wp2_with fail
  refine (new_ok 1048576 w2 (by decide) (by decide)).mono ?_
  rintro e w3 ⟨rfl, t3, b3⟩
  have s3 := b3.size
  have B3 := hide ((unhide B2).trans (b3.mono s2))
  have OR3 := hide (own_below (unhide OR2) b3)
  have HC := hide (nopen w2.heap.size w2.heap.size none 1048576 0 0 0 [] g a w3 t3 ((unhide HS).below (unhide B3)) s3 Fit.nil rfl (by decide))
  clear t3 b3 OR2 B2
  go_wp2_with fail
  refine (unhide HC).mono ?_
  rintro e w4 ⟨l, rfl, hlt4, l4, b4⟩
  have s4 : w2.heap.size ≤ w4.heap.size := Nat.le_trans s3 b4.size
  have OR4 := hide (own_below (unhide OR3) b4)
  have B4 := hide ((unhide B3).trans (b4.mono (unhide B3).size))
  have L4 := hide l4
  clear l4 b4 HC OR3 B3
  go_wp2_with fail
  go_loopg [11] nR (fun gg iv wr => ∃ (i n : Nat) (q : Option Nat), gg = nR - i ∧ i ≤ nR ∧ iv = .int .i64 i ∧ takes (XR.take i) = n ∧ Lg w2.heap.size wr l w2.heap.size q (Ls 1048576 (XR.take i) 0 i) n ∧ wr.ownsRow w1.heap.size 32 1 (.slice aoR nR cR) nR vR ∧ Below w.heap.size w wr ∧ w2.heap.size ≤ wr.heap.size)
  case atStart => exact ⟨0, 0, none, rfl, Nat.zero_le _, rfl, rfl, unhide L4, unhide OR4, unhide B4, s4⟩
  case round =>
    obtain ⟨i, n, q, hg, hi, rfl, hn, lg, orr, br, sr⟩ := hrel
    have HG := hide hg
    have HN := hide hn
    have LG := hide lg
    have OR := hide orr
    have BR := hide br
    have hnf : n ≤ 2464 := by have := takes_front XR i; have := unhide TR; omega
    clear hg hn lg orr br L4 OR4 B4
    by_cases hlt : i < nR
    · have hix : i < XR.length := by rw [unhide HR1]; exact hlt
      obtain ⟨ad, r, cx, rfl, hc, hby, hcx, hnx⟩ := rows_at (unhide OR) (unhide HR1) ((unhide RR).below (unhide BR)) i hix
      have hsu := take_succ XR [] i hix
      have hfx := (unhide FR _ (getD_mem hix)).2
      have htk := takes_front XR (i + 1)
      generalize XR.getD i [] = x at *
      obtain ⟨lx, hlx⟩ : ∃ lx, x.length = lx := ⟨_, rfl⟩
      rw [hlx] at hc hcx hfx
      have htk2 : takes (XR.take (i + 1)) = n + (8 + lx) := by rw [hsu, takes_snoc, unhide HN, hlx]
      have hnl : n + (8 + lx) ≤ 2464 := by have := unhide TR; omega
      have HSU := hide hsu
      have HLX := hide hlx
      have HTK := hide htk2
      have HBY := hide hby
      have HNX := hide hnx
      clear hsu hlx htk htk2 hby hnx hix
      go_wp2_with fail
      refine (nappend w2.heap.size l w2.heap.size q 1048576 0 i n (XR.take i) g a r lx cx x (unhide HLX) wr (unhide LG) ((unhide HS).below (unhide BR)) z2 sr (unhide HN) (by omega) (unhide HBY) (unhide HNX) hcx hfx (by decide) (by omega)).mono ?_
      rintro e w7 ⟨q7, rfl, l7, k7, _⟩
      have L7 := hide l7
      have OR7 := hide ((unhide LG).rows (unhide OR) k7)
      have B7 := hide ((unhide BR).trans (k7.1.mono s2))
      have s7 : w2.heap.size ≤ w7.heap.size := Nat.le_trans sr k7.size
      clear l7 k7
      go_wp2
      go_roundg (nR - (i + 1))
      case measure => have := unhide HG; omega
      case rel => exact ⟨i + 1, n + (8 + lx), q7, rfl, by omega, by go_num, unhide HTK, by rw [unhide HSU]; exact unhide L7, unhide OR7, unhide B7, s7⟩
    · have ei : i = nR := by omega
      subst ei
      have etk : XR.take i = XR := List.take_of_length_le (by rw [unhide HR1]; omega)
      rw [etk] at LG HN
      obtain rfl : n = kR := (unhide HN).symm.trans (unhide KR)
      clear etk hlt HG
      go_wp2_with fail
      refine (nsync w2.heap.size l w2.heap.size q 1048576 0 i n XR g a wr (unhide LG) ((unhide HS).below (unhide BR)) sr (unhide HN) (by omega)).mono ?_
      rintro e w7 ⟨rfl, l7, k7⟩
      have L7 := hide l7
      have OR7 := hide ((unhide LG).tape.rows (unhide OR) k7)
      have B7 := hide ((unhide BR).trans (k7.1.mono s2))
      have s7 : w2.heap.size ≤ w7.heap.size := Nat.le_trans sr k7.size
      clear l7 k7 LG OR BR
      go_wp2_with fail
      refine (nappend w2.heap.size l w2.heap.size q 1048576 n (i + 1) n XR g a aom nm cm bm (unhide HNM) w7 (unhide L7) ((unhide HS).below (unhide B7)) z2 s7 (unhide HN) (by omega) ((unhide YM).below (unhide B7)) (unhide NM) hcm (by omega) (by decide) (by omega)).mono ?_
      rintro e w8 ⟨q8, rfl, l8, k8, _⟩
      have OR8 := hide ((unhide L7).rows (unhide OR7) k8)
      have B8 := hide ((unhide B7).trans (k8.1.mono s2))
      have s8 : w2.heap.size ≤ w8.heap.size := Nat.le_trans s7 k8.size
      obtain ⟨c, hc1, hc2, hc3, hc4, hc5⟩ := crash_last 1048576 XR bm (i + 1 + 1) n keep (by rw [unhide HNM]; omega) (unhide HN)
      rw [unhide HNM] at hc1 hc4 hc5
      have hcr := crash_any w2.heap.size w2.heap.size q8 _ keep w8 l8.tape
      rw [hc2, hc3] at hcr
      have HCR := hide hcr
      have T8 := hide l8.tape
      have HC4 := hide hc4
      have HC5 := hide hc5
      clear l8 k8 L7 OR7 B7 hc2 hc3 hc4 hc5 hcr
      go_wp2_with fail
      refine (unhide HCR).mono ?_
      rintro e w9 ⟨rfl, t9, k9⟩
      have OR9 := hide ((unhide T8).rows (unhide OR8) k9)
      have B9 := hide ((unhide B8).trans (k9.1.mono s2))
      have s9 : w2.heap.size ≤ w9.heap.size := Nat.le_trans s8 k9.size
      have T9 := hide t9
      clear t9 k9 T8 OR8 B8 HCR
      by_cases hcc : c = 8 + nm
      · have t9 := unhide T9
        rw [unhide HC5 hcc] at t9
        have FX := hide ((unhide FR).snoc (unhide YM).1 (by rw [unhide HNM]; omega))
        have TX : Hid (takes (XR ++ [bm]) = n + (8 + nm)) := by show _ = _; rw [takes_snoc, unhide HN, unhide HNM]
        have HOP := hide (npart w2.heap.size w2.heap.size q8 1048576 _ (i + 1 + 1) (n + (8 + nm)) (XR ++ [bm]) [] g a w9 t9 ((unhide HS).below (unhide B9)) s9 (unhide FX) frameOf_nil (unhide TX) (by decide) (by omega))
        have hci : (c : Int) = (nm : Int) + 8 := by omega
        clear t9 HC4 HC5
        go_wp2_with fail
        refine (unhide HOP).mono ?_
        rintro e wa ⟨qa, l', syn', ops', hops, rfl, hl', la, ka, _⟩
        have ORa := hide ((unhide T9).rows (unhide OR9) ka)
        have Ba := hide ((unhide B9).trans (ka.1.mono s2))
        have sa : w2.heap.size ≤ wa.heap.size := Nat.le_trans s9 ka.size
        have La := hide la
        have be : Below wa.heap.size wa (wa.alloc (.cells #[] 32)) := (Below.refl _ wa).alloc (Nat.le_refl _) _
        have ORe := hide (own_below (unhide ORa) be)
        have Ee := hide (rows_empty w2.heap.size wa sa)
        have se : w2.heap.size ≤ (wa.alloc (.cells #[] 32)).heap.size := Nat.le_trans sa be.size
        have hvl : vR.length = i := by rw [(unhide RR).1]; exact unhide HR1
        have HVL := hide hvl
        clear la ka be hvl HOP T9 OR9 B9
        go_wp2_with (at_builtin; refine wpList_append_rows rfl (.tmp 67) (.tmp 68) rfl w2.heap.size _ [] 0 rfl (unhide Ee) aoR i cR vR rfl (unhide HVL) (rows_cells (unhide ORe)) (unhide RR).one (unhide NR) (by omega) se ?_)
        intro aoV cV wb ob kb _
        have bb := below_new kb (fun k hk => by simp only [Value.ownBlock, Option.some.injEq] at hk; omega)
        have Bb := hide ((unhide Ba).trans (bb.mono (unhide Ba).size))
        have Lb := hide ((unhide La).below bb)
        have sb : w2.heap.size ≤ wb.heap.size := Nat.le_trans sa bb.size
        have OV : Hid (wb.ownsRow w2.heap.size 32 1 (.slice aoV i cV) i vR) := ob
        clear ob kb bb ORe Ee La Ba ORa
        go_wp2_with (at_builtin; refine wpList_append_rows rfl (.tmp 69) (.tmp 71) rfl w2.heap.size _ vR i rfl ((unhide OV).alloc _) (some ⟨wb.heap.size, 0, none⟩) 1 1 [.slice aom nm cm] rfl rfl built_one (one_slice _ _ _) (fun e => by cases e) (by omega) (by simp; omega) ?_)
        intro aoW cW wc oc kc _
        have kbc : Kept w2.heap.size (fun k => (Value.slice aoV i cV).ownBlock = some k) wb wc := (Kept.of_below ((Below.refl _ wb).alloc (Nat.le_refl _) _) sb).trans kc (fun _ _ x => x)
        have Lc := hide ((unhide Lb).grown (unhide OV) kbc)
        have Bc := hide ((unhide Bb).trans (kbc.1.mono s2))
        have sc : w2.heap.size ≤ wc.heap.size := Nat.le_trans sb kbc.size
        have OW : Hid (wc.ownsRow w2.heap.size 32 1 (.slice aoW (i + 1) cW) (i + 1) (vR ++ [.slice aom nm cm])) := by
          show wc.ownsRow w2.heap.size 32 1 (.slice aoW (i + 1) cW) (i + 1) (vR ++ [.slice aom nm cm])
          simpa using oc
        have RX := hide ((unhide RR).snoc (unhide HNM) (unhide YM) hcm (unhide NM))
        have XL : Hid ((XR ++ [bm]).length = i + 1) := by show _ = _; rw [List.length_append, unhide HR1]; rfl
        have WL : Hid ((vR ++ [Value.slice aom nm cm]).length = i + 1) := by show _ = _; rw [List.length_append, unhide HVL]; rfl
        have NW := hide (row_nil (unhide OW))
        clear oc kc kbc OV Lb Bb
        have cc : Below wc.heap.size wc (wc.alloc (.cells (u8s [111, 110]).toArray 5 (2, 3))) := (Below.refl _ wc).alloc (Nat.le_refl _) _
        have HAP := hide (nappend w2.heap.size l' w2.heap.size qa 1048576 syn' ops' (n + (8 + nm)) (XR ++ [bm]) g a (some ⟨wc.heap.size, 0, none⟩) 2 2 [111, 110] rfl _ ((unhide Lc).below cc) (((unhide HS).below (unhide Bc)).below cc) z2 (Nat.le_trans sc cc.size) (unhide TX) (by omega) (bytes_new wc [111, 110] (by decide) 5 (2, 3)) (fun h => by cases h) (by decide) (by decide) (by decide) (by omega))
        have Lcc := hide ((unhide Lc).below cc)
        have OWc := hide (own_below (unhide OW) cc)
        have Bcc := hide ((unhide Bc).trans (cc.mono (unhide Bc).size))
        have scc : w2.heap.size ≤ (wc.alloc (.cells (u8s [111, 110]).toArray 5 (2, 3))).heap.size := Nat.le_trans sc cc.size
        clear cc Lc OW Bc
        go_wp2_with fail
        refine (unhide HAP).mono ?_
        rintro e wd ⟨qd, rfl, ld, kd, _⟩
        have OWd := hide ((unhide Lcc).rows (unhide OWc) kd)
        have Bd := hide ((unhide Bcc).trans (kd.1.mono s2))
        have sd : w2.heap.size ≤ wd.heap.size := Nat.le_trans scc kd.size
        have FY := hide ((unhide FX).snoc (x := [111, 110]) (by decide) (by decide))
        have TY : Hid (takes (XR ++ [bm] ++ [[111, 110]]) = n + (8 + nm) + (8 + 2)) := by show _ = _; rw [takes_snoc, unhide TX]; rfl
        have YL : Hid ((XR ++ [bm] ++ [[111, 110]]).length = i + 1 + 1) := by show _ = _; rw [List.length_append, unhide XL]; rfl
        have HAL := hide (nall w2.heap.size l' w2.heap.size qd 1048576 syn' (ops' + 1) (n + (8 + nm) + (8 + 2)) (XR ++ [bm] ++ [[111, 110]]) g a wd ld ((unhide HS).below (unhide Bd)) (unhide FY) (unhide TY) (by decide) (i + 1 + 1) (unhide YL))
        clear ld kd HAP Lcc OWc Bcc
        go_wp2_with fail
        refine (unhide HAL).mono ?_
        rintro e we ⟨aoe, cae, rfl, re, _, be⟩
        have OWe := own_below (unhide OWd) be
        have Be := hide ((unhide Bd).trans (be.mono (unhide Bd).size))
        have be2 : Below we.heap.size we (we.alloc (.cells #[] 32)) := (Below.refl _ we).alloc (Nat.le_refl _) _
        have se : w2.heap.size ≤ we.heap.size := Nat.le_trans sd be.size
        have RE := hide re
        have OWf := hide (own_below OWe be2)
        have Ef := hide (rows_empty w2.heap.size we se)
        have sf : w2.heap.size ≤ (we.alloc (.cells #[] 32)).heap.size := Nat.le_trans se be2.size
        clear re be be2 HAL OWd Bd OWe
        go_wp2_with (at_builtin; refine wpList_append_rows_w (.tmp 98) (.tmp 99) rfl rfl w2.heap.size _ [] 0 rfl (unhide Ef) aoW (i + 1) cW (vR ++ [.slice aom nm cm]) rfl (unhide WL) (rows_cells (unhide OWf)) (unhide RX).one (unhide NW) (by omega) sf ?_)
        intro aof caf wf of kf hatf
        have hge : Hid (∀ k, (Value.slice aof (i + 1) caf).ownBlock = some k → we.heap.size ≤ k) := fun k hk => by
          rcases hatf with e | e <;> rw [hk] at e <;> simp [Value.ownBlock] at e <;> omega
        have bf := below_new kf (fun k hk => by simp only [Value.ownBlock, Option.some.injEq] at hk; omega)
        have Bf := hide ((unhide Be).trans (bf.mono (unhide Be).size))
        have sf2 : w2.heap.size ≤ wf.heap.size := Nat.le_trans se bf.size
        have OF : Hid (wf.ownsRow w2.heap.size 32 1 (.slice aof (i + 1) caf) (i + 1) (vR ++ [.slice aom nm cm])) := of
        have cf : Below wf.heap.size wf (wf.alloc (.cells #[.int .u8 111, .int .u8 110] 5 (2, 3))) := (Below.refl _ wf).alloc (Nat.le_refl _) _
        have OFf := hide (own_below (unhide OF) cf)
        have sf3 : w2.heap.size ≤ (wf.alloc (.cells #[.int .u8 111, .int .u8 110] 5 (2, 3))).heap.size := Nat.le_trans sf2 cf.size
        have YF : Hid (Bytes (wf.alloc (.cells #[.int .u8 111, .int .u8 110] 5 (2, 3))) (some ⟨wf.heap.size, 0, none⟩) [111, 110]) := bytes_new wf [111, 110] (by decide) 5 (2, 3)
        have BWF := hide (bf.trans (cf.mono bf.size))
        have Bff := hide ((unhide Bf).trans (cf.mono (unhide Bf).size))
        clear of kf bf cf OWf Ef Be hatf
        go_wp2_with (at_builtin; refine wpList_append_rows_w (.tmp 100) (.tmp 103) rfl rfl w2.heap.size _ (vR ++ [.slice aom nm cm]) (i + 1) rfl ((unhide OFf).alloc _) (some ⟨wf.heap.size + 1, 0, none⟩) 1 1 [.slice (some ⟨wf.heap.size, 0, none⟩) 2 2] rfl rfl (built_at (by simp)) (one_slice _ _ _) (fun e => by cases e) (by omega) (Nat.le_trans sf3 (by simp)) ?_)
        intro aog cag wg og kg _
        have bg : Below (wf.alloc (.cells #[.int .u8 111, .int .u8 110] 5 (2, 3))).heap.size (wf.alloc (.cells #[.int .u8 111, .int .u8 110] 5 (2, 3))) ((wf.alloc (.cells #[.int .u8 111, .int .u8 110] 5 (2, 3))).alloc (.cells #[.slice (some ⟨wf.heap.size, 0, none⟩) 2 2] 32)) := (Below.refl _ _).alloc (Nat.le_refl _) _
        have kgg := (Kept.of_below (f := fun k => (Value.slice aof (i + 1) caf).ownBlock = some k) bg sf3).trans kg (fun _ _ x => x)
        have hblk : ∀ k, (Value.slice aof (i + 1) caf).ownBlock = some k → k < wf.heap.size := fun k hk => ((unhide OF).lt k hk).2
        have Bg := hide ((unhide Bff).trans (kgg.1.mono s2))
        have yg := (unhide YF).far kgg (fun x hx e => by cases hx; have := hblk _ e; simp at this)
        have rvg := ((unhide RX).below (unhide Bg)).snoc (x := [111, 110]) rfl yg (Nat.le_refl 2) (fun e => by cases e)
        have OG : wg.ownsRow w2.heap.size 32 1 (.slice aog (i + 1 + 1) cag) (i + 1 + 1) (vR ++ [.slice aom nm cm] ++ [.slice (some ⟨wf.heap.size, 0, none⟩) 2 2]) := by simpa using og
        have RG := hide (rows_at OG (unhide YL) rvg)
        have REg := hide ((unhide RE).upto ((unhide BWF).trans (below_of_kept kgg (unhide hge) (unhide BWF).size)))
        clear og kg bg kgg hblk yg rvg OG
        go_wp2_with fail
        refine (same_any aoe aog (i + 1 + 1) (i + 1 + 1) cae cag _ _ (unhide YL) (unhide YL) wg (unhide REg) (unhide RG) (by omega) (by omega)).mono ?_
        rintro e wh ⟨bb, rfl, hbb, bh⟩
        obtain rfl := hbb rfl
        have Bh := hide ((unhide Bg).trans (bh.mono (unhide Bg).size))
        clear hbb bh
        go_wp2
        go_ret
        exact ⟨rfl, unhide Bh⟩
      · have hclt : c < 8 + nm := by omega
        have HOP := hide (npart w2.heap.size w2.heap.size q8 1048576 _ (i + 1 + 1) n XR _ g a w9 (unhide T9) ((unhide HS).below (unhide B9)) s9 (unhide FR) (unhide HC4 hclt) (unhide HN) (by decide) (by omega))
        have hci : ((c : Int) == (nm : Int) + 8) = false := by simp; omega
        have FX := FR
        have TX := HN
        have RX := RR
        have XL := HR1
        have WL : Hid (vR.length = i) := by show _ = _; rw [(unhide RR).1]; exact unhide HR1
        have NW := NR
        clear HC4 HC5
        go_wp2_with fail
        refine (unhide HOP).mono ?_
        rintro e wc ⟨qa, l', syn', ops', hops, rfl, hl', la, ka, _⟩
        have OW := hide ((unhide T9).rows (unhide OR9) ka)
        have Bc := hide ((unhide B9).trans (ka.1.mono s2))
        have sc : w2.heap.size ≤ wc.heap.size := Nat.le_trans s9 ka.size
        have Lc := hide la
        clear la ka HOP T9 OR9 B9
        have cc : Below wc.heap.size wc (wc.alloc (.cells (u8s [111, 110]).toArray 5 (2, 3))) := (Below.refl _ wc).alloc (Nat.le_refl _) _
        have HAP := hide (nappend w2.heap.size l' w2.heap.size qa 1048576 syn' ops' (n) (XR) g a (some ⟨wc.heap.size, 0, none⟩) 2 2 [111, 110] rfl _ ((unhide Lc).below cc) (((unhide HS).below (unhide Bc)).below cc) z2 (Nat.le_trans sc cc.size) (unhide TX) (by omega) (bytes_new wc [111, 110] (by decide) 5 (2, 3)) (fun h => by cases h) (by decide) (by decide) (by decide) (by omega))
        have Lcc := hide ((unhide Lc).below cc)
        have OWc := hide (own_below (unhide OW) cc)
        have Bcc := hide ((unhide Bc).trans (cc.mono (unhide Bc).size))
        have scc : w2.heap.size ≤ (wc.alloc (.cells (u8s [111, 110]).toArray 5 (2, 3))).heap.size := Nat.le_trans sc cc.size
        clear cc Lc OW Bc
        go_wp2_with fail
        refine (unhide HAP).mono ?_
        rintro e wd ⟨qd, rfl, ld, kd, _⟩
        have OWd := hide ((unhide Lcc).rows (unhide OWc) kd)
        have Bd := hide ((unhide Bcc).trans (kd.1.mono s2))
        have sd : w2.heap.size ≤ wd.heap.size := Nat.le_trans scc kd.size
        have FY := hide ((unhide FX).snoc (x := [111, 110]) (by decide) (by decide))
        have TY : Hid (takes (XR ++ [[111, 110]]) = n + (8 + 2)) := by show _ = _; rw [takes_snoc, unhide TX]; rfl
        have YL : Hid ((XR ++ [[111, 110]]).length = i + 1) := by show _ = _; rw [List.length_append, unhide XL]; rfl
        have HAL := hide (nall w2.heap.size l' w2.heap.size qd 1048576 syn' (ops' + 1) (n + (8 + 2)) (XR ++ [[111, 110]]) g a wd ld ((unhide HS).below (unhide Bd)) (unhide FY) (unhide TY) (by decide) (i + 1) (unhide YL))
        clear ld kd HAP Lcc OWc Bcc
        go_wp2_with fail
        refine (unhide HAL).mono ?_
        rintro e we ⟨aoe, cae, rfl, re, _, be⟩
        have OWe := own_below (unhide OWd) be
        have Be := hide ((unhide Bd).trans (be.mono (unhide Bd).size))
        have be2 : Below we.heap.size we (we.alloc (.cells #[] 32)) := (Below.refl _ we).alloc (Nat.le_refl _) _
        have se : w2.heap.size ≤ we.heap.size := Nat.le_trans sd be.size
        have RE := hide re
        have OWf := hide (own_below OWe be2)
        have Ef := hide (rows_empty w2.heap.size we se)
        have sf : w2.heap.size ≤ (we.alloc (.cells #[] 32)).heap.size := Nat.le_trans se be2.size
        clear re be be2 HAL OWd Bd OWe
        go_wp2_with (at_builtin; refine wpList_append_rows_w (.tmp 98) (.tmp 99) rfl rfl w2.heap.size _ [] 0 rfl (unhide Ef) aoR (i) cR (vR) rfl (unhide WL) (rows_cells (unhide OWf)) (unhide RX).one (unhide NW) (by omega) sf ?_)
        intro aof caf wf of kf hatf
        have hge : Hid (∀ k, (Value.slice aof (i) caf).ownBlock = some k → we.heap.size ≤ k) := fun k hk => by
          rcases hatf with e | e <;> rw [hk] at e <;> simp [Value.ownBlock] at e <;> omega
        have bf := below_new kf (fun k hk => by simp only [Value.ownBlock, Option.some.injEq] at hk; omega)
        have Bf := hide ((unhide Be).trans (bf.mono (unhide Be).size))
        have sf2 : w2.heap.size ≤ wf.heap.size := Nat.le_trans se bf.size
        have OF : Hid (wf.ownsRow w2.heap.size 32 1 (.slice aof (i) caf) (i) (vR)) := of
        have cf : Below wf.heap.size wf (wf.alloc (.cells #[.int .u8 111, .int .u8 110] 5 (2, 3))) := (Below.refl _ wf).alloc (Nat.le_refl _) _
        have OFf := hide (own_below (unhide OF) cf)
        have sf3 : w2.heap.size ≤ (wf.alloc (.cells #[.int .u8 111, .int .u8 110] 5 (2, 3))).heap.size := Nat.le_trans sf2 cf.size
        have YF : Hid (Bytes (wf.alloc (.cells #[.int .u8 111, .int .u8 110] 5 (2, 3))) (some ⟨wf.heap.size, 0, none⟩) [111, 110]) := bytes_new wf [111, 110] (by decide) 5 (2, 3)
        have BWF := hide (bf.trans (cf.mono bf.size))
        have Bff := hide ((unhide Bf).trans (cf.mono (unhide Bf).size))
        clear of kf bf cf OWf Ef Be hatf
        go_wp2_with (at_builtin; refine wpList_append_rows_w (.tmp 100) (.tmp 103) rfl rfl w2.heap.size _ (vR) (i) rfl ((unhide OFf).alloc _) (some ⟨wf.heap.size + 1, 0, none⟩) 1 1 [.slice (some ⟨wf.heap.size, 0, none⟩) 2 2] rfl rfl (built_at (by simp)) (one_slice _ _ _) (fun e => by cases e) (by omega) (Nat.le_trans sf3 (by simp)) ?_)
        intro aog cag wg og kg _
        have bg : Below (wf.alloc (.cells #[.int .u8 111, .int .u8 110] 5 (2, 3))).heap.size (wf.alloc (.cells #[.int .u8 111, .int .u8 110] 5 (2, 3))) ((wf.alloc (.cells #[.int .u8 111, .int .u8 110] 5 (2, 3))).alloc (.cells #[.slice (some ⟨wf.heap.size, 0, none⟩) 2 2] 32)) := (Below.refl _ _).alloc (Nat.le_refl _) _
        have kgg := (Kept.of_below (f := fun k => (Value.slice aof (i) caf).ownBlock = some k) bg sf3).trans kg (fun _ _ x => x)
        have hblk : ∀ k, (Value.slice aof (i) caf).ownBlock = some k → k < wf.heap.size := fun k hk => ((unhide OF).lt k hk).2
        have Bg := hide ((unhide Bff).trans (kgg.1.mono s2))
        have yg := (unhide YF).far kgg (fun x hx e => by cases hx; have := hblk _ e; simp at this)
        have rvg := ((unhide RX).below (unhide Bg)).snoc (x := [111, 110]) rfl yg (Nat.le_refl 2) (fun e => by cases e)
        have OG : wg.ownsRow w2.heap.size 32 1 (.slice aog (i + 1) cag) (i + 1) (vR ++ [.slice (some ⟨wf.heap.size, 0, none⟩) 2 2]) := by simpa using og
        have RG := hide (rows_at OG (unhide YL) rvg)
        have REg := hide ((unhide RE).upto ((unhide BWF).trans (below_of_kept kgg (unhide hge) (unhide BWF).size)))
        clear og kg bg kgg hblk yg rvg OG
        go_wp2_with fail
        refine (same_any aoe aog (i + 1) (i + 1) cae cag _ _ (unhide YL) (unhide YL) wg (unhide REg) (unhide RG) (by omega) (by omega)).mono ?_
        rintro e wh ⟨bb, rfl, hbb, bh⟩
        obtain rfl := hbb rfl
        have Bh := hide ((unhide Bg).trans (bh.mono (unhide Bg).size))
        clear hbb bh
        go_wp2
        go_ret
        exact ⟨rfl, unhide Bh⟩
end Go.Proofs.YtbgaedialdpljaaDoor
