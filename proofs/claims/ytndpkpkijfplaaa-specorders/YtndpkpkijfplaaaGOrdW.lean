/- SpecOrders: the law's walk. -/
import Derived.Test.YtndpkpkijfplaaaGOrdA
import Derived.Test.YtndpkpkijfplaaaGWithin
import Derived.Deep.RegionHeld3
import Derived.Deep.DrawnRows
namespace Go.Proofs.Ytndpkpkijfplaaa
open Go.RowKit Go.Maps
attribute [local go_sem ↓] Go.wp_at_zero Go.wp_at_succ

/-- how many requests each client has, in memory. -/
def HasR (w : World) (b : Nat) (h : Nat → Nat) : Prop := ∃ cur : Array Value, w.heap[b]? = some (.cells cur 44 (0, 0)) ∧ cur.size = 4 ∧ ∀ c, c < 4 → cur[c]? = some (.int .i64 (h c : Int))
theorem HasR.below {w w' : World} {b : Nat} {h : Nat → Nat} (H : HasR w b h) (hb : Below w.heap.size w w') : HasR w' b h := by
  obtain ⟨cur, h1, h2, h3⟩ := H
  exact ⟨cur, Below.stay hb h1, h2, h3⟩
theorem VR.again {base : Nat} {N N' : Option Nat} {w wr : World} {v : Value} {xs : List Evx} (h0 : VR base N w v xs) (h : wr.ownsRow base 31 11 v xs.length (cells11s xs)) (he : ∀ x ∈ xs, x.1.es = []) : VR base N' wr v xs :=
  ⟨h, fun x hx => by
    have ok := h0.2 x hx
    exact ⟨ok.ms, ok.wf, by rw [he x hx]; exact EsR.nil _ _ _, ok.all, ok.len, ok.cap⟩⟩
theorem HasR.set {w : World} {b : Nat} {h : Nat → Nat} (H : HasR w b h) {c : Nat} (hc : c < 4) (x : Nat) : HasR (w.setCell ⟨b, c, none⟩ (.int .i64 (x : Int))) b (fun y => if y = c then x else h y) := by
  obtain ⟨cur, h1, h2, h3⟩ := H
  refine ⟨_, setCell_block h1, by simpa using h2, fun y hy => ?_⟩
  rw [Array.getElem?_setIfInBounds]
  by_cases hyc : c = y
  · subst hyc; simp [h2, hc]
  · simp only [if_neg hyc]
    rw [if_neg (fun e => hyc e.symm)]
    exact h3 y hy
theorem HasR.cell {w : World} {b : Nat} {h : Nat → Nat} (H : HasR w b h) {c : Nat} (hc : c < 4) : w.cell? ⟨b, c, none⟩ = some (.int .i64 (h c : Int)) ∧ w.frozen? ⟨b, c, none⟩ = false := by
  obtain ⟨cur, h1, h2, h3⟩ := H
  exact ⟨(cell_of_block h1).trans (h3 c hc), free_of_block h1⟩
theorem ER.esB {base : Nat} {w : World} {ao : Option Addr} {n cap : Nat} {es : List En} (h : ER base w (.slice ao n cap) es) : EsR (EnB base none w) w ao es := fun i e hi => by
  obtain ⟨g, off, mo, c, h1, h2, h3, h4, h5⟩ := h.esR i e hi
  subst h1
  obtain ⟨_, cur, fr, hc⟩ := own_tag h.1 g rfl
  refine ⟨g, off, mo, c, rfl, ⟨h2.1, ⟨cur, fr, hc⟩, by simp⟩, h3, ?_, h5⟩
  have hms := h.2 e (List.mem_of_getElem? hi)
  rw [hms]; exact InF.nil _ _ _
theorem OLog.wf {L : List En} {h : Nat → Nat} (H : OLog L h) : ∀ e ∈ L, En.wf e := fun e he => by
  obtain ⟨c, s, rfl, q1, q2, q3, q4⟩ := H.is e he
  have := H.le c
  exact ⟨wf_range (by simp only [askE]; omega), wf_range (by simp only [askE]; omega)⟩
set_option maxRecDepth 20000 in
set_option maxHeartbeats 8000000 in
theorem orders_walk (ao bo : Option Addr) (n cap m cap2 : Nat) (xs zs : List Int) (hx : xs.length = n) (hz : zs.length = m) (w : World) (ha : IntsR w ao xs) (hbz : IntsR w bo zs) :
    Calls Try.prog 8 #[.slice ao n cap, .slice bo m cap2] w fun e w' => e = .returned (.bool true) ∧ Below w.heap.size w w' := by
  have HA := hide ha
  have HBZ := hide hbz
  have HX := hide hx
  have HZ := hide hz
  have NK := hide (known_any w)
  clear ha hx hbz hz
  go_enter Try.func8, Try.ntmps8
  go_wp2_with fail
  refine (unhide NK).mono ?_
  rintro z w0 ⟨rfl, b0⟩
  have B0 := hide b0
  have CD := hide (called_any 3 4 (by omega) (by omega) w0)
  clear b0 NK
  go_wp2_with fail
  refine (unhide CD).mono ?_
  rintro z w1 ⟨ve, es0, rfl, hve, hes0, b1⟩
  have bw1 : Below w.heap.size w w1 := below_far (unhide B0) b1
  obtain ⟨W, hW⟩ : ∃ W, w1.alloc (.cells #[.int .i64 0, .int .i64 0, .int .i64 0, .int .i64 0] 44) = W := ⟨_, rfl⟩
  have bW : Below w1.heap.size w1 W := by rw [← hW]; exact (Below.refl _ w1).alloc (Nat.le_refl _) _
  have hW0 : HasR W w1.heap.size (fun _ => 0) := by
    refine ⟨_, by rw [← hW]; exact box_at w1 _, rfl, fun c hc => ?_⟩
    match c, hc with
    | 0, _ => rfl
    | 1, _ => rfl
    | 2, _ => rfl
    | 3, _ => rfl
  obtain ⟨hb, hhb⟩ : ∃ hb, w1.heap.size = hb := ⟨_, rfl⟩
  rw [hhb] at hW0
  have HHB := hide hhb
  have HES := hide hes0
  have hsz0 : w.heap.size ≤ w0.heap.size := (unhide B0).size
  have VE : Hid (VR w0.heap.size none W ve es0) := hve.below bW
  have HAS := hide hW0
  have BW := hide (below_far bw1 bW)
  have HWW := hide hW
  have HBL : Hid (w.heap.size ≤ hb ∧ w0.heap.size ≤ hb) := ⟨by rw [← hhb]; exact bw1.size, by rw [← hhb]; exact b1.size⟩
  have SZ0 := hide hsz0
  clear hve hes0 b1 bw1 hW bW hW0 hhb CD hsz0
  go_upto_region 5 with fail
  rw [unhide HWW]
  rw [unhide HHB]
  go_wp2_with fail
  go_loopw [7, 8, 9] (fun v i _ wr => ∃ (k : Nat) (L : List En) (h : Nat → Nat), k ≤ n ∧ k ≤ 30 ∧ i = .int .i64 (k : Int) ∧ L.length ≤ k ∧ OLog L h ∧ ER w0.heap.size wr v L ∧ HasR wr hb h ∧ wr.ownsRow w0.heap.size 31 11 ve es0.length (cells11s es0) ∧ Below w.heap.size w wr) (fun _ i _ _ => 30 - (intOf i).toNat)
  case atStart => exact ⟨0, [], _, Nat.zero_le _, Nat.zero_le _, rfl, Nat.le_refl _, OLog.nil, ER.nil _ _, unhide HAS, (unhide VE).1, unhide BW⟩
  case round =>
    obtain ⟨k, L, h, hk, hk30, rfl, hLl, hol, her, hhas, hown, hbel⟩ := hrel
    have OL := hide hol
    have ER0 := hide her
    have HS := hide hhas
    have OW := hide hown
    have HB := hide hbel
    have LL := hide hLl
    clear hol her hhas hown hbel hLl HAS BW B0
    have VE0 := VE
    clear VE
    go_upto_region 7 with fail
    go_cut [22] (fun t wc => t = .bool (decide (k < n ∧ k < 30)) ∧ wc = wr)
    case first =>
      by_cases hlt : k < n
      · have q : (k : Int) < n := by omega
        by_cases hlt2 : k < 30
        · have q2 : (k : Int) < 30 := by omega
          have hd := hide (decide_eq_true (And.intro hlt hlt2))
          go_wp2
          go_meet
          exact ⟨by rw [unhide hd], rfl⟩
        · have q2 : ¬ (k : Int) < 30 := by omega
          have hd := hide (decide_eq_false (fun h : k < n ∧ k < 30 => hlt2 h.2))
          go_wp2
          go_meet
          exact ⟨by rw [unhide hd], rfl⟩
      · have q : ¬ (k : Int) < n := by omega
        have hd := hide (decide_eq_false (fun h : k < n ∧ k < 30 => hlt h.1))
        go_wp2
        go_meet
        exact ⟨by rw [unhide hd], rfl⟩
    case rest =>
      obtain ⟨h22, hwc⟩ := hcut
      replace hwc := hwc.symm
      subst hwc
      have h22' : u22 = .bool (decide (k < n ∧ k < 30)) := h22
      subst h22'
      clear h22
      by_cases hc : k < n ∧ k < 30
      · rw [decide_eq_true hc]
        obtain ⟨hlt, hlt2⟩ := hc
        obtain ⟨a1, rfl, h1⟩ := unhide HA k (by rw [unhide HX]; exact hlt)
        have c1 := ((unhide HB).cell (blk_lt h1)).trans h1
        clear h1
        have q0 : (0 : Int) ≤ (k : Int) := by omega
        have q1 : (k : Int) < (n : Int) := by omega
        obtain ⟨x, hxk⟩ : ∃ x, xs.getD k 0 = x := ⟨_, rfl⟩
        rw [hxk] at c1
        obtain ⟨r, hr⟩ : ∃ r, (x % 3).toNat = r := ⟨_, rfl⟩
        have hr5 : x % 3 = (r : Int) := by omega
        have hr6 : r < 3 := by omega
        have W3 := hide (fun Y => within_at x 3 r hr5 Y (by omega) (by omega))
        clear hxk hr hr5
        go_upto_region 9 with fail
        go_cut [9] (fun t wc => t = .int .i64 ((r + 1 : Nat) : Int) ∧ wc = wr)
        case first =>
          go_wp2_with (go_at_call 16; refine (unhide W3 _).mono ?_; rintro z w1 ⟨rfl, rfl⟩)
          go_meet
          exact ⟨by congr 1; omega, rfl⟩
        case rest =>
          obtain ⟨h9, hwc⟩ := hcut
          replace hwc := hwc.symm
          subst hwc
          have h9' : u9 = .int .i64 ((r + 1 : Nat) : Int) := h9
          subst h9'
          clear h9 W3 c1
          obtain ⟨c, hcr⟩ : ∃ c, r + 1 = c := ⟨_, rfl⟩
          rw [hcr]
          have hc1 : 1 ≤ c := by omega
          have hc3 : c ≤ 3 := by omega
          obtain ⟨cc, cf⟩ := (unhide HS).cell (c := c) (by omega)
          have g0 : (0 : Int) ≤ (c : Int) := by omega
          have g1 : (c : Int) < 4 := by omega
          clear hcr hr6
          by_cases hh : h c < 4
          · have q4 : ((h c : Nat) : Int) < 4 := by omega
            have OL2 := (unhide OL).more hc1 hc3 hh
            have hs2 := (unhide HS).set (c := c) (by omega) (h c + 1)
            obtain ⟨s, hs⟩ : ∃ s, h c = s := ⟨_, rfl⟩
            rw [hs] at OL2 hs2 cc q4 hh
            rw [show (((s + 1 : Nat)) : Int) = (s : Int) + 1 by omega] at hs2
            obtain ⟨W2, hW2⟩ : ∃ W2, wr.setCell ⟨hb, c, none⟩ (.int .i64 ((s : Int) + 1)) = W2 := ⟨_, rfl⟩
            rw [hW2] at hs2
            have hne : ∀ k', k' ≠ hb → W2.heap[k']? = wr.heap[k']? := fun k' hk' => by rw [← hW2]; exact Below.heap_setCell _ _ _ k' hk'
            have hbx : ∃ cur fr, wr.heap[hb]? = some (.cells cur 44 fr) := by
              obtain ⟨cur, h1, _⟩ := unhide HS
              exact ⟨cur, _, h1⟩
            have er2 : ER w0.heap.size W2 u7 L := ⟨own_kept (unhide ER0).1 fun k' hk' => hne k' (fun e => by
              subst e
              obtain ⟨_, cur, fr, h1⟩ := own_tag (unhide ER0).1 k' hk'
              obtain ⟨cur', fr', h2⟩ := hbx
              rw [h1] at h2; cases h2), (unhide ER0).2⟩
            have ow2 : W2.ownsRow w0.heap.size 31 11 ve es0.length (cells11s es0) := own_kept (unhide OW) fun k' hk' => hne k' (fun e => by
              subst e
              obtain ⟨_, cur, fr, h1⟩ := own_tag (unhide OW) k' hk'
              obtain ⟨cur', fr', h2⟩ := hbx
              rw [h1] at h2; cases h2)
            have bW2 : Below w.heap.size w W2 := by rw [← hW2]; exact (unhide HB).setCell (p := ⟨hb, c, none⟩) (unhide HBL).1 _
            have cc2 : W2.cell? ⟨hb, c, none⟩ = some (.int .i64 ((s : Int) + 1)) := by
              have := (hs2.cell (c := c) (by omega)).1
              simpa using this
            have AK := ask_any c (s + 1) (by omega) (by omega) W2
            rw [show (((s + 1 : Nat)) : Int) = (s : Int) + 1 by omega] at AK
            obtain ⟨e, he⟩ : ∃ e, askE c (s + 1) = e := ⟨_, rfl⟩
            have hems : e.ms = [] := by rw [← he]; rfl
            rw [he] at AK OL2
            have AK2 : Calls Try.prog 18 #[.int .i64 (c : Int), .int .i64 ((s : Int) + 1)] W2 fun z w' => z = .returned (.agg #[.int .i64 e.kind, .int .i64 e.client, .int .i64 e.seq, .string e.text, .slice none 0 0, .int .i64 e.dest]) ∧ Below W2.heap.size W2 w' := by
              refine AK.mono fun z w' h => ⟨?_, h.2⟩
              have := h.1
              unfold ev at this
              rw [hems] at this
              exact this
            have AKH := hide AK2
            have OLH := hide OL2
            have HS2 := hide hs2
            have ER2 := hide er2
            have OW2 := hide ow2
            have BW2 := hide bW2
            have HMS := hide hems
            have wks : wrap64 ((s : Int) + 1) = (s : Int) + 1 := by unfold wrap64; omega
            clear AK AK2 OL2 hs2 er2 ow2 bW2 he hems hne hbx hs OL ER0 HS OW HB
            go_upto_region 12 with fail
            clear hW2
            go_wp2_with fail
            refine (unhide AKH).mono ?_
            rintro z w1 ⟨rfl, b1⟩
            obtain ⟨V, hV⟩ : ∃ V, w1.alloc (.cells #[.int .i64 e.kind, .int .i64 e.client, .int .i64 e.seq, .string e.text, .slice none 0 0, .int .i64 e.dest] 29) = V := ⟨_, rfl⟩
            have bV : Below w1.heap.size w1 V := by rw [← hV]; exact (Below.refl _ w1).alloc (Nat.le_refl _) _
            have xV : V.heap[w1.heap.size]? = some (.cells (c6 e).toArray 29 (0, 0)) := by rw [← hV]; exact box_at w1 _
            have bb := below_far b1 bV
            have hwb := (unhide BW2).size
            have h0b : w0.heap.size ≤ V.heap.size := Nat.le_trans (unhide HBL).2 (Nat.le_trans (by obtain ⟨cur, h1, _⟩ := unhide HS2; exact Nat.le_of_lt (heap_lt h1)) bb.size)
            obtain ⟨v', w2, hr2, her2, hg2⟩ := ((unhide ER2).below bb).push 24 w1.heap.size e xV (unhide HMS) (by have := unhide LL; omega) h0b
            have FIN : Hid ((L ++ [e]).length ≤ k + 1 ∧ OLog (L ++ [e]) (fun x => if x = c then s + 1 else h x) ∧ ER w0.heap.size w2 v' (L ++ [e]) ∧ HasR w2 hb (fun x => if x = c then s + 1 else h x) ∧ w2.ownsRow w0.heap.size 31 11 ve es0.length (cells11s es0) ∧ Below w.heap.size w w2) := by
              refine ⟨by rw [List.length_append]; have := unhide LL; simp; omega, unhide OLH, her2, ?_, ?_, ?_⟩
              · obtain ⟨cur, h1, h2, h3⟩ := (unhide HS2).below bb
                refine ⟨cur, (hg2.block hb (heap_lt h1) (fun x => ?_)).trans h1, h2, h3⟩
                obtain ⟨_, cur', fr', hc'⟩ := own_tag ((unhide ER2).below bb).1 hb x.symm
                rw [h1] at hc'; cases hc'
              · refine own_kept (own_below (unhide OW2) bb) fun k' hk' => hg2.block k' ((own_below (unhide OW2) bb).lt k' hk').2 (fun x => ?_)
                obtain ⟨_, cur, fr, h1⟩ := own_tag (own_below (unhide OW2) bb) k' hk'
                obtain ⟨_, cur', fr', h2⟩ := own_tag ((unhide ER2).below bb).1 k' x.symm
                rw [h1] at h2; cases h2
              · exact ((unhide BW2).trans (bb.mono hwb)).grown hg2 (Nat.le_trans hwb bb.size) (fun k' hk' => Nat.le_trans (unhide SZ0) (((unhide ER2).below bb).1.lt k' hk').1)
            have HV := hide hV
            have HR2 := hide hr2
            clear hV bV xV bb hwb her2 hg2 hr2 b1 h0b
            go_wp2_with (rw [unhide HV]; with_reducible refine wpList_appEn rfl (.tmp 40) (.tmp 46) 24 rfl (by with_unfolding_all rfl) (by with_unfolding_all rfl) (unhide HR2) ?_)
            go_roundw
            case rel => exact ⟨k + 1, L ++ [e], _, by omega, by omega, by go_num, unhide FIN⟩
            case measure => simp [intOf]; omega
          · have q4 : ¬ ((h c : Nat) : Int) < 4 := by omega
            go_wp2_with fail
            go_roundw
            case rel => exact ⟨k + 1, L, h, by omega, by omega, by go_num, Nat.le_succ_of_le (unhide LL), unhide OL, unhide ER0, unhide HS, unhide OW, unhide HB⟩
            case measure => simp [intOf]; omega
      · rw [decide_eq_false hc]
        clear hc
        obtain ⟨S0, know0, con0, ask0⟩ := know_calls 3 4
        have CON := hide ((unhide OL).con con0 ask0)
        have KNOW : Hid (knowOf (es0.map Prod.fst) = some S0) := by show _ = _; rw [unhide HES]; exact know0
        have LW := hide (unhide OL).wf
        have LG := hide (unhide OL).lg
        have hve0 : VR w0.heap.size none wr ve es0 := (unhide VE0).again (unhide OW) (fun x hx => by
          have h1 : x.1 ∈ callsTo 3 4 := by rw [← unhide HES]; exact List.mem_map.2 ⟨x, hx, rfl⟩
          unfold callsTo at h1
          obtain ⟨i, _, h2⟩ := List.mem_flatMap.1 h1
          obtain ⟨j, _, h3⟩ := List.mem_map.1 h2
          rw [← h3]; rfl)
        have hl12 : es0.length = 12 := by
          have h1 := congrArg List.length (unhide HES)
          rw [List.length_map, callsTo_len] at h1
          exact h1
        obtain ⟨lo, lc, rfl, hlc, -, -⟩ := (unhide ER0).slice
        obtain ⟨N, hN⟩ : ∃ N, L.length = N := ⟨_, rfl⟩
        have hN30 : N ≤ 30 := by have := unhide LL; omega
        rw [hN] at hlc
        have ERN : Hid (ER w0.heap.size wr (.slice lo N lc) L) := by rw [← hN]; exact unhide ER0
        rw [hN]
        have V0 := hide hve0
        have HLC := hide hlc
        have HN := hide hN
        have H12 := hide hl12
        have H30 := hide hN30
        have S0W := hide (Nat.le_trans (unhide HBL).2 (Nat.le_of_lt (heap_lt (unhide HS).choose_spec.1)))
        clear know0 con0 ask0 hve0 hlc hN hl12 hN30 ER0 OL OW HS hk hk30 LL
        go_upto_region 13 with fail
        go_wp2_with fail
        go_loopw [5, 10, 11] (fun v i _ wz => ∃ (j : Nat) (ys : List Evx) (S : Kn), j ≤ m ∧ j ≤ 20 ∧ i = .int .i64 (j : Int) ∧ knowOf (ys.map Prod.fst) = some S ∧ Con askZ L S ∧ ys.length ≤ 12 + j ∧ VR w0.heap.size none wz v ys ∧ ER w0.heap.size wz (.slice lo N lc) L ∧ w0.heap.size ≤ wz.heap.size ∧ Below w.heap.size w wz) (fun _ i _ _ => 20 - (intOf i).toNat)
        case atStart => exact ⟨0, es0, S0, Nat.zero_le _, Nat.zero_le _, rfl, unhide KNOW, unhide CON, by rw [unhide H12]; omega, unhide V0, unhide ERN, unhide S0W, unhide HB⟩
        case round =>
          clear KNOW CON V0 ERN S0W HB
          obtain ⟨j, ys, S, hj, hj20, rfl, hkn, hcon, hyl, hvr, her, hsz, hb⟩ := hrel
          have KN := hide hkn
          have CO := hide hcon
          have YL := hide hyl
          have VV := hide hvr
          have ERZ := hide her
          have SZ := hide hsz
          have HB := hide hb
          clear hkn hcon hyl hvr her hsz hb
          go_upto_region 14 with fail
          go_cut [55] (fun t wc => t = .bool (decide (j < m ∧ j < 20)) ∧ wc = wr)
          case first =>
            by_cases hlt : j < m
            · have q : (j : Int) < m := by omega
              by_cases hlt2 : j < 20
              · have q2 : (j : Int) < 20 := by omega
                have hd := hide (decide_eq_true (And.intro hlt hlt2))
                go_wp2
                go_meet
                exact ⟨by rw [unhide hd], rfl⟩
              · have q2 : ¬ (j : Int) < 20 := by omega
                have hd := hide (decide_eq_false (fun h : j < m ∧ j < 20 => hlt2 h.2))
                go_wp2
                go_meet
                exact ⟨by rw [unhide hd], rfl⟩
            · have q : ¬ (j : Int) < m := by omega
              have hd := hide (decide_eq_false (fun h : j < m ∧ j < 20 => hlt h.1))
              go_wp2
              go_meet
              exact ⟨by rw [unhide hd], rfl⟩
          case rest =>
            obtain ⟨h55, hwc⟩ := hcut
            replace hwc := hwc.symm
            subst hwc
            have h55' : u55 = .bool (decide (j < m ∧ j < 20)) := h55
            subst h55'
            clear h55
            by_cases hc : j < m ∧ j < 20
            · rw [decide_eq_true hc]
              obtain ⟨hlt, hlt2⟩ := hc
              obtain ⟨a1, rfl, h1⟩ := unhide HBZ j (by rw [unhide HZ]; exact hlt)
              have c1 := ((unhide HB).cell (blk_lt h1)).trans h1
              clear h1
              have q0 : (0 : Int) ≤ (j : Int) := by omega
              have q1 : (j : Int) < (m : Int) := by omega
              obtain ⟨x, hxk⟩ : ∃ x, zs.getD j 0 = x := ⟨_, rfl⟩
              rw [hxk] at c1
              clear hxk
              obtain ⟨kk, hr⟩ : ∃ kk, (x % ((N + 1 : Nat) : Int)).toNat = kk := ⟨_, rfl⟩
              have hy0 := Int.emod_nonneg x (show ((N + 1 : Nat) : Int) ≠ 0 by omega)
              have hy1 := Int.emod_lt_of_pos x (show (0 : Int) < ((N + 1 : Nat) : Int) by omega)
              have hkk : kk ≤ N := by omega
              have WN := within_at x ((N + 1 : Nat) : Int) kk (by omega) wr (by omega) (by have := unhide H30; omega)
              rw [show ((N + 1 : Nat) : Int) = (N : Int) + 1 by omega] at WN
              have WNH := hide WN
              have wkN : wrap64 ((N : Int) + 1) = (N : Int) + 1 := by have := unhide H30; unfold wrap64; omega
              have HKK := hide hkk
              clear hr hy0 hy1 hkk WN
              have ELK := (unhide ERZ).esB
              by_cases hev : x.tmod 2 = 0
              · have p0 : (0 : Int) ≤ (kk : Int) := by omega
                have p1 : (kk : Int) ≤ (N : Int) := by have := unhide HKK; omega
                have p2 : (kk : Int) ≤ (lc : Int) := by have := unhide HKK; have := unhide HLC; omega
                have hlen : (L.take kk).length = kk := by rw [List.length_take]; have := unhide HN; have := unhide HKK; omega
                obtain ⟨y, hy⟩ : ∃ y : Evx, (⟨3, 0, 0, kk, zeroEn, L.take kk⟩, lo, lc) = y := ⟨_, rfl⟩
                obtain ⟨V, hV⟩ : ∃ V, wr.alloc (.cells #[.int .i64 3, .int .i64 0, .int .i64 0, .int .i64 (kk : Int), .int .i64 0, .int .i64 0, .int .i64 0, .string ⟨#[]⟩, .slice none 0 0, .int .i64 0, .slice lo kk lc] 31) = V := ⟨_, rfl⟩
                have bV : Below wr.heap.size wr V := by rw [← hV]; exact (Below.refl _ wr).alloc (Nat.le_refl _) _
                have xV : V.heap[wr.heap.size]? = some (.cells (c11 y).toArray 31 (0, 0)) := by
                  have h1 : (c11 y).toArray = #[.int .i64 3, .int .i64 0, .int .i64 0, .int .i64 (kk : Int), .int .i64 0, .int .i64 0, .int .i64 0, .string ⟨#[]⟩, .slice none 0 0, .int .i64 0, .slice lo kk lc] := by
                    rw [← hy]; simp only [c11, hlen, zeroEn]
                  rw [h1, ← hV]; exact box_at wr _
                have okV : EvOk w0.heap.size none V y := by
                  rw [← hy]
                  exact ⟨rfl, ⟨wf_range (by simp only; omega), wf_range (by simp only; omega), wf_range (by simp only; have := unhide H30; have := unhide HKK; omega)⟩, (ELK.take kk).keeps (Keeps.below bV), fun e he => unhide LW e (List.mem_of_mem_take he), by simp only [hlen]; have := unhide H30; have := unhide HKK; omega, by simp only [hlen]; have := unhide HKK; have := unhide HLC; omega⟩
                obtain ⟨v', w2, hr2, hv2, hg2, kp2⟩ := ((unhide VV).below bV).push 22 wr.heap.size y xV okV (by have := unhide YL; omega) (Nat.le_trans (unhide SZ) bV.size)
                obtain ⟨S2, t1, t2, -⟩ := (unhide CO).read (unhide LG) (n := kk) (by have := unhide HN; have := unhide HKK; omega) (v := y.1) (by rw [← hy]) (by rw [← hy]) (by rw [← hy])
                have FIN : Hid (knowOf ((ys ++ [y]).map Prod.fst) = some S2 ∧ Con askZ L S2 ∧ (ys ++ [y]).length ≤ 12 + (j + 1) ∧ VR w0.heap.size none w2 v' (ys ++ [y]) ∧ ER w0.heap.size w2 (.slice lo N lc) L ∧ w0.heap.size ≤ w2.heap.size ∧ Below w.heap.size w w2) := by
                  refine ⟨by rw [List.map_append]; exact know_snoc (unhide KN) t1, t2, by rw [List.length_append]; have := unhide YL; simp; omega, hv2, ?_, Nat.le_trans (unhide SZ) (Nat.le_trans bV.size hg2.size), ((unhide HB).trans (bV.mono (unhide HB).size)).grown hg2 (Nat.le_trans (unhide HB).size bV.size) (fun k' hk' => Nat.le_trans (unhide SZ0) (((unhide VV).below bV).1.lt k' hk').1)⟩
                  refine ((unhide ERZ).below bV).grown hg2 (fun k' hk' e => ?_)
                  obtain ⟨_, cur, fr, h1⟩ := own_tag ((unhide ERZ).below bV).1 k' hk'
                  obtain ⟨_, cur', fr', h2⟩ := own_tag ((unhide VV).below bV).1 k' e
                  rw [h1] at h2; cases h2
                have HVV := hide hV
                have HR2 := hide hr2
                clear hV bV xV okV hv2 hg2 kp2 hr2 t1 t2 hy hlen ELK
                go_upto_region 17 with (go_at_call 16; refine (unhide WNH).mono ?_; rintro z w1 ⟨rfl, hw1⟩; replace hw1 := hw1.symm; subst hw1)
                go_wp2_with (rw [unhide HVV]; with_reducible refine wpList_appEn rfl (.tmp 72) (.tmp 78) 22 rfl (by with_unfolding_all rfl) (by with_unfolding_all rfl) (unhide HR2) ?_)
                go_roundw
                case rel => exact ⟨j + 1, ys ++ [y], S2, by omega, by omega, by go_num, unhide FIN⟩
                case measure => simp [intOf]; omega
              · have hev2 : (x.tmod 2 == 0) = false := by rw [beq_eq_false_iff_ne]; exact hev
                clear hev
                by_cases hk0 : 0 < kk
                · obtain ⟨q, hq⟩ : ∃ q, kk = q + 1 := ⟨kk - 1, by omega⟩
                  have hqN : q < N := by have := unhide HKK; omega
                  obtain ⟨e, he⟩ : ∃ e, L[q]? = some e := ⟨_, List.getElem?_eq_getElem (by have := unhide HN; omega)⟩
                  obtain ⟨g, off, mo, mc, rfl, k0, k1, k2, k3, k4, k5, -, -⟩ := ELK.at he
                  have hkq : (kk : Int) = (q : Int) + 1 := by omega
                  have r1 : (0 : Int) < (q : Int) + 1 := by omega
                  have r3 : (q : Int) < 30 := by have := unhide H30; omega
                  have WNQ := unhide WNH
                  rw [hkq] at WNQ
                  have WNH := hide WNQ
                  clear WNQ
                  have r4 : (0 : Int) ≤ (q : Int) := by omega
                  have r5 : (q : Int) < (N : Int) := by omega
                  obtain ⟨y, hy⟩ : ∃ y : Evx, (⟨2, e.client, e.seq, kk, zeroEn, []⟩, none, 0) = y := ⟨_, rfl⟩
                  have hew := unhide LW e (List.mem_of_getElem? he)
                  obtain ⟨V, hV⟩ : ∃ V, (wr.alloc (.cells #[.int .i64 2, .int .i64 e.client, .int .i64 e.seq, .int .i64 ((q : Int) + 1), .int .i64 0, .int .i64 0, .int .i64 0, .string ⟨#[]⟩, .slice none 0 0, .int .i64 0, .slice none 0 0] 31)).drew = V := ⟨_, rfl⟩
                  have bV : Below wr.heap.size wr V := by rw [← hV]; exact ((Below.refl _ wr).alloc (Nat.le_refl _) _).drew
                  have xV : V.heap[wr.heap.size]? = some (.cells (c11 y).toArray 31 (0, 0)) := by
                    have h1 : (c11 y).toArray = #[.int .i64 2, .int .i64 e.client, .int .i64 e.seq, .int .i64 ((q : Int) + 1), .int .i64 0, .int .i64 0, .int .i64 0, .string ⟨#[]⟩, .slice none 0 0, .int .i64 0, .slice none 0 0] := by
                      rw [← hy]; simp only [c11, zeroEn, List.length_nil, hkq]
                    rw [h1, ← hV]; exact box_at wr _
                  have okV : EvOk w0.heap.size none V y := by
                    rw [← hy]
                    exact ⟨rfl, ⟨hew.1, hew.2, wf_range (by simp only; have := unhide H30; have := unhide HKK; omega)⟩, EsR.nil _ _ _, fun e he => by simp at he, by simp, by simp⟩
                  obtain ⟨v', w2, hr2, hv2, hg2, kp2⟩ := ((unhide VV).below bV).push 22 wr.heap.size y xV okV (by have := unhide YL; omega) (Nat.le_trans (unhide SZ) bV.size)
                  obtain ⟨S2, t1, t2, -⟩ := (unhide CO).done (unhide LG) he (v := y.1) (by rw [← hy]) (by rw [← hy]) (by rw [← hy]) (by rw [← hy]; simp only; omega)
                  have ew2 : ER w0.heap.size w2 (.slice (some ⟨g, off, none⟩) N lc) L := by
                    refine ((unhide ERZ).below bV).grown hg2 (fun k' hk' e => ?_)
                    obtain ⟨_, cur, fr, h1⟩ := own_tag ((unhide ERZ).below bV).1 k' hk'
                    obtain ⟨_, cur', fr', h2⟩ := own_tag ((unhide VV).below bV).1 k' e
                    rw [h1] at h2; cases h2
                  obtain ⟨g', off', mo', mc', e1, -, m1, m2, -⟩ := ew2.esB.at he
                  cases e1
                  have SDR : Hid (wr.drew.cell? ⟨g, off + q * 6 + 1, none⟩ = some (.int .i64 e.client) ∧ wr.drew.cell? ⟨g, off + q * 6 + 2, none⟩ = some (.int .i64 e.seq)) := ⟨k1, k2⟩
                  have SDV' : V.cell? ⟨g, off + q * 6 + 1, none⟩ = some (.int .i64 e.client) ∧ V.cell? ⟨g, off + q * 6 + 2, none⟩ = some (.int .i64 e.seq) := ⟨(bV.cell (blk_lt k1)).trans k1, (bV.cell (blk_lt k2)).trans k2⟩
                  rw [← hV] at SDV'
                  have SDV := hide SDV'
                  have SD2 : Hid (w2.cell? ⟨g, off + q * 6 + 1, none⟩ = some (.int .i64 e.client) ∧ w2.cell? ⟨g, off + q * 6 + 2, none⟩ = some (.int .i64 e.seq)) := ⟨m1, m2⟩
                  have FIN : Hid (knowOf ((ys ++ [y]).map Prod.fst) = some S2 ∧ Con askZ L S2 ∧ (ys ++ [y]).length ≤ 12 + (j + 1) ∧ VR w0.heap.size none w2 v' (ys ++ [y]) ∧ ER w0.heap.size w2 (.slice (some ⟨g, off, none⟩) N lc) L ∧ w0.heap.size ≤ w2.heap.size ∧ Below w.heap.size w w2) :=
                    ⟨by rw [List.map_append]; exact know_snoc (unhide KN) t1, t2, by rw [List.length_append]; have := unhide YL; simp; omega, hv2, ew2, Nat.le_trans (unhide SZ) (Nat.le_trans bV.size hg2.size), ((unhide HB).trans (bV.mono (unhide HB).size)).grown hg2 (Nat.le_trans (unhide HB).size bV.size) (fun k' hk' => Nat.le_trans (unhide SZ0) (((unhide VV).below bV).1.lt k' hk').1)⟩
                  have hr2' := hr2
                  rw [← hV] at hr2'
                  have HR2 := hide hr2'
                  clear hV bV xV okV hv2 hg2 kp2 hr2 hr2' t1 t2 hy ELK hew ew2 m1 m2 SDV' k0 k1 k2 k3 k4 k5 hq hqN he hk0 hkq
                  go_upto_region 17 with (go_at_call 16; refine (unhide WNH).mono ?_; rintro z w1 ⟨rfl, hw1⟩; replace hw1 := hw1.symm; subst hw1)
                  go_upto_region 20 with fail
                  have r6 : IntKind.i64.wrap ((q : Int) + 1 - 1) = (q : Int) := by rw [IntKind.wrap_i64]; omega
                  have r7 : IntKind.i64.wrap (q : Int) = (q : Int) := by rw [IntKind.wrap_i64]; omega
                  have r8 : wrap64 (q : Int) = (q : Int) := by unfold wrap64; omega
                  have r9 : wrap64 ((q : Int) + 1 - 1) = (q : Int) := by unfold wrap64; omega
                  have r10 : (q : Int) + 1 - 1 = (q : Int) := by omega
                  go_region_held3 (fun Y => Y.cell? ⟨g, off + q * 6 + 1, none⟩ = some (.int .i64 e.client) ∧ Y.cell? ⟨g, off + q * 6 + 2, none⟩ = some (.int .i64 e.seq))
                    (first | with_reducible exact unhide SDR | with_reducible exact unhide SDV | with_reducible exact unhide SD2 | fail)
                    (first
                    | (with_reducible refine step_run (.tmp 82) (.tmp 97) 22 (by with_unfolding_all rfl) (by with_unfolding_all rfl) (by with_unfolding_all rfl) (by with_unfolding_all rfl) (unhide HR2) ?_)
                    | fail)
                  all_goals go_wp2_with fail
                  all_goals go_roundw
                  case rel => exact ⟨j + 1, ys ++ [y], S2, by omega, by omega, by go_num, unhide FIN⟩
                  case measure => simp [intOf]; omega
                · have q9 : ¬ (0 : Int) < (kk : Int) := by omega
                  go_upto_region 17 with (go_at_call 16; refine (unhide WNH).mono ?_; rintro z w1 ⟨rfl, hw1⟩; replace hw1 := hw1.symm; subst hw1)
                  go_wp2_with fail
                  go_roundw
                  case rel => exact ⟨j + 1, ys, S, by omega, by omega, by go_num, unhide KN, unhide CO, by have := unhide YL; omega, unhide VV, unhide ERZ, unhide SZ, unhide HB⟩
                  case measure => simp [intOf]; omega
            · rw [decide_eq_false hc]
              clear hc
              obtain ⟨vo, vc, rfl, hvc⟩ := (unhide VV).slice
              have hck := check_all (unhide KN)
              have CK := hide (check_any vo ys.length vc (ys.map Prod.fst) (by simp) (by have := unhide YL; omega) wr (unhide VV).evR)
              rw [hck] at CK
              clear hck hvc
              go_wp2_with fail
              refine (unhide CK).mono ?_
              rintro z w2 ⟨rfl, b2⟩
              have FIN := hide ((unhide HB).trans (b2.mono (unhide HB).size))
              clear b2 CK
              go_wp2
              go_ret
              exact ⟨rfl, unhide FIN⟩
end Go.Proofs.Ytndpkpkijfplaaa
