/- The document's own log: what it is in memory; Last, Term: contracts. hist.climbs, Entry, barred: contracts. hist: barred: a contract. -/
import Derived.Test.YtjplhiflemmkfaaGreatDoorHhHAdd
import Derived.Test.YtjplhiflemmkfaaGreatDoorHhHTerm
namespace Go.Proofs.YtjplhiflemmkfaaGreatDoor.Hh
open Go.RowKit Go.Maps

/-- a row of entries of the call's own, their members in memory that came in. -/
def XRow (base : Nat) (w : World) (v : Value) (es : List En) : Prop :=
  ∃ xs, w.ownsRow base 43 6 v es.length xs ∧ ∀ (i : Nat) (e : En), es[i]? = some e → ∃ mo cap, (∀ (j : Nat) (u : Value), (e.cells (.slice mo e.ms.length cap))[j]? = some u → xs[i * 6 + j]? = some u) ∧ InF (fun k => k < base) w mo e.ms ∧ e.ms.length ≤ 1000000
theorem XRow.nil (base : Nat) (w : World) : XRow base w (.slice none 0 0) [] := ⟨[], ⟨rfl, Or.inl ⟨rfl, rfl⟩⟩, fun i e hi => by simp at hi⟩
theorem XRow.kp {E : Nat → Prop} {base : Nat} {w w' : World} {v : Value} {es : List En} (h : XRow base w v es) (hk : Kp E w w') (hv : ∀ k, v.ownBlock = some k → ¬ E k) (hb : ∀ k, E k → base ≤ k) : XRow base w' v es := by
  obtain ⟨xs, h1, h2⟩ := h
  refine ⟨xs, Kept.own hk h1 hv, fun i e hi => ?_⟩
  obtain ⟨mo, cap, k1, k2, k3⟩ := h2 i e hi
  exact ⟨mo, cap, k1, k2.kp hk (fun k hk' x => by have := hb k x; omega), k3⟩
theorem XRow.slice {base : Nat} {w : World} {v : Value} {es : List En} (h : XRow base w v es) : ∃ ao cap, v = .slice ao es.length cap ∧ es.length ≤ cap ∧ cap ≤ maxLen := by
  obtain ⟨xs, h1, _⟩ := h
  rcases h1.2 with ⟨e1, e2⟩ | ⟨g, cap, cur, e1, _, _, e3, e4, _⟩
  · exact ⟨none, 0, by rw [e2]; exact e1, by omega, by decide⟩
  · exact ⟨_, cap, e1, e3, e4⟩
theorem XRow.esR {base : Nat} {w : World} {ao : Option Addr} {n cap : Nat} {es : List En} (h : XRow base w (.slice ao n cap) es) (hb : base ≤ w.heap.size) : EsR (fun k => k < w.heap.size) w ao es := fun i e hi => by
  obtain ⟨xs, h1, h2⟩ := h
  obtain ⟨mo, mc, k1, k2, k4⟩ := h2 i e hi
  rcases h1.2 with ⟨e1, e2⟩ | ⟨g, cap', cur, e1, e2, e3, _⟩
  · have := (List.getElem?_eq_some_iff.1 hi).1; omega
  · obtain rfl : ao = some ⟨g, 0, none⟩ := by simp only [Value.slice.injEq] at e1; exact e1.1
    refine ⟨g, 0, mo, mc, rfl, heap_lt e3, fun j u hj => ?_, k2.mono (fun k hk => by omega), k4⟩
    have := World.ownsRow.cells (by rw [e1] at h1; exact h1) (g := g) rfl (i * 6 + j) u (k1 j u hj)
    rw [Addr.add_lit] at this
    rw [Nat.add_assoc]; exact this
theorem XRow.at {base : Nat} {w : World} {ao : Option Addr} {n cap : Nat} {es : List En} (h : XRow base w (.slice ao n cap) es) {k : Nat} {e : En} (he : es[k]? = some e) :
    ∃ g mo mc, ao = some ⟨g, 0, none⟩ ∧ (∀ (j : Nat) (u : Value), (e.cells (.slice mo e.ms.length mc))[j]? = some u → w.cell? ⟨g, k * 6 + j, none⟩ = some u) ∧ InF (fun j => j < base) w mo e.ms ∧ e.ms.length ≤ 1000000 := by
  obtain ⟨xs, h1, h2⟩ := h
  obtain ⟨mo, mc, k1, k2, k4⟩ := h2 k e he
  rcases h1.2 with ⟨e1, e2⟩ | ⟨g, cap', cur, e1, e2, e3, _⟩
  · have := (List.getElem?_eq_some_iff.1 he).1; omega
  · obtain rfl : ao = some ⟨g, 0, none⟩ := by simp only [Value.slice.injEq] at e1; exact e1.1
    refine ⟨g, mo, mc, rfl, fun j u hj => ?_, k2, k4⟩
    have := World.ownsRow.cells (by rw [e1] at h1; exact h1) (g := g) rfl (k * 6 + j) u (k1 j u hj)
    rwa [Addr.add_lit, Nat.zero_add] at this
theorem three_cells {w : World} {p : Nat} {x y z : Value} {t : TypeId} {fr : Nat × Nat} (h : w.heap[p]? = some (.cells #[x, y, z] t fr)) : w.cell? ⟨p, 0, none⟩ = some x ∧ w.cell? ⟨p, 1, none⟩ = some y ∧ w.cell? ⟨p, 2, none⟩ = some z :=
  ⟨(cell_of_block h).trans rfl, (cell_of_block h).trans rfl, (cell_of_block h).trans rfl⟩

end Go.Proofs.YtjplhiflemmkfaaGreatDoor.Hh
namespace Go.Proofs.YtjplhiflemmkfaaGreatDoor.Hh
open Go.RowKit Go.Maps

/-- terms, behind one that stands ahead, are terms and do not fall. -/
def climbsOf : Int → List Int → Bool
  | _, [] => true
  | a, t :: ts => decide (max 1 a ≤ t) && climbsOf t ts
theorem climbsOf_max (a : Int) (ts : List Int) : climbsOf (max 1 a) ts = climbsOf a ts := by
  cases ts with
  | nil => rfl
  | cons t ts => unfold climbsOf; congr 2; simp

set_option maxHeartbeats 1000000 in
theorem hclimbs_any (a : Int) (ao : Option Addr) (n cap : Nat) (ts : List Int) (hn : ts.length = n) (hl : n ≤ 1000000) (w : World) (hb : IntsR w ao ts) :
    Calls Tryz.prog 143 #[.int .i64 a, .slice ao n cap] w fun e w' => e = .returned (.bool (climbsOf a ts)) ∧ Below w.heap.size w w' := by
  rw [← climbsOf_max]
  obtain ⟨m, hm⟩ : ∃ m, max 1 a = m := ⟨_, rfl⟩
  have hm1 : 1 ≤ m := by omega
  rw [hm]
  obtain ⟨R, hR⟩ : ∃ R, climbsOf m ts = R := ⟨_, rfl⟩
  rw [hR]
  have HR := hide hR
  have HM := hide hm1
  have HB := hide hb
  have HN := hide hn
  clear hR hb hn hm1
  by_cases ha : 1 < a
  · obtain rfl : a = m := by omega
    clear hm
    go_enter Tryz.func143, Tryz.ntmps143
    go_wp2_with fail
    go_loopw [12, 5, 7] (fun iv lv _ wr => ∃ (k : Nat) (l : Int), k ≤ n ∧ iv = .int .i64 (k : Int) ∧ lv = .int .i64 l ∧ 1 ≤ l ∧ climbsOf l (ts.drop k) = R ∧ Below w.heap.size w wr) (fun iv _ _ _ => n - (intOf iv).toNat)
    case atStart => exact ⟨0, a, by omega, rfl, rfl, unhide HM, by rw [List.drop_zero]; exact unhide HR, Below.refl _ _⟩
    case round =>
      obtain ⟨k, l, hk, rfl, rfl, hl1, hr, hbel⟩ := hrel
      have HL := hide hl1
      have HRR := hide hr
      have B := hide hbel
      clear hl1 hr hbel
      by_cases hlt : k < n
      · obtain ⟨a1, rfl, h1⟩ := (unhide HB) k (by rw [unhide HN]; exact hlt)
        have c1 : wr.cell? (a1.add k) = some (.int .i64 (ts.getD k 0)) := by rw [(unhide B).cell (blk_lt h1)]; exact h1
        have q : (k : Int) < n := by omega
        obtain ⟨t, ht⟩ : ∃ t, ts.getD k 0 = t := ⟨_, rfl⟩
        have hd : ts.drop k = t :: ts.drop (k + 1) := by rw [drop_getD (by rw [unhide HN]; exact hlt), ht]
        rw [ht] at c1
        have hr2 := unhide HRR
        rw [hd, climbsOf] at hr2
        have hmx : max 1 l = l := by have := unhide HL; omega
        rw [hmx] at hr2
        clear h1 ht hd HRR
        by_cases hle : l ≤ t
        · rw [decide_eq_true hle, Bool.true_and] at hr2
          have HR2 := hide hr2
          have HT : Hid (1 ≤ t) := by have := unhide HL; show 1 ≤ t; omega
          have hge : decide (t < l) = false := decide_eq_false (by omega)
          clear hr2 hle hmx
          go_wp2
          go_roundw
          case rel => exact ⟨k + 1, t, by omega, by go_num, rfl, unhide HT, unhide HR2, unhide B⟩
          case measure => simp [intOf]; omega
        · rw [decide_eq_false hle, Bool.false_and] at hr2
          subst hr2
          have hge : decide (t < l) = true := decide_eq_true (by omega)
          clear hle hmx
          go_wp2
          go_ret
          exact ⟨rfl, unhide B⟩
      · obtain rfl : true = R := by
          rw [← unhide HRR, List.drop_of_length_le (by rw [unhide HN]; omega)]; rfl
        clear HR HRR
        go_wp2
        go_ret
        exact ⟨rfl, unhide B⟩
  · obtain rfl : 1 = m := by omega
    clear hm
    go_enter Tryz.func143, Tryz.ntmps143
    go_wp2_with fail
    go_loopw [12, 5, 7] (fun iv lv _ wr => ∃ (k : Nat) (l : Int), k ≤ n ∧ iv = .int .i64 (k : Int) ∧ lv = .int .i64 l ∧ 1 ≤ l ∧ climbsOf l (ts.drop k) = R ∧ Below w.heap.size w wr) (fun iv _ _ _ => n - (intOf iv).toNat)
    case atStart => exact ⟨0, 1, by omega, rfl, rfl, unhide HM, by rw [List.drop_zero]; exact unhide HR, Below.refl _ _⟩
    case round =>
      obtain ⟨k, l, hk, rfl, rfl, hl1, hr, hbel⟩ := hrel
      have HL := hide hl1
      have HRR := hide hr
      have B := hide hbel
      clear hl1 hr hbel
      by_cases hlt : k < n
      · obtain ⟨a1, rfl, h1⟩ := (unhide HB) k (by rw [unhide HN]; exact hlt)
        have c1 : wr.cell? (a1.add k) = some (.int .i64 (ts.getD k 0)) := by rw [(unhide B).cell (blk_lt h1)]; exact h1
        have q : (k : Int) < n := by omega
        obtain ⟨t, ht⟩ : ∃ t, ts.getD k 0 = t := ⟨_, rfl⟩
        have hd : ts.drop k = t :: ts.drop (k + 1) := by rw [drop_getD (by rw [unhide HN]; exact hlt), ht]
        rw [ht] at c1
        have hr2 := unhide HRR
        rw [hd, climbsOf] at hr2
        have hmx : max 1 l = l := by have := unhide HL; omega
        rw [hmx] at hr2
        clear h1 ht hd HRR
        by_cases hle : l ≤ t
        · rw [decide_eq_true hle, Bool.true_and] at hr2
          have HR2 := hide hr2
          have HT : Hid (1 ≤ t) := by have := unhide HL; show 1 ≤ t; omega
          have hge : decide (t < l) = false := decide_eq_false (by omega)
          clear hr2 hle hmx
          go_wp2
          go_roundw
          case rel => exact ⟨k + 1, t, by omega, by go_num, rfl, unhide HT, unhide HR2, unhide B⟩
          case measure => simp [intOf]; omega
        · rw [decide_eq_false hle, Bool.false_and] at hr2
          subst hr2
          have hge : decide (t < l) = true := decide_eq_true (by omega)
          clear hle hmx
          go_wp2
          go_ret
          exact ⟨rfl, unhide B⟩
      · obtain rfl : true = R := by
          rw [← unhide HRR, List.drop_of_length_le (by rw [unhide HN]; omega)]; rfl
        clear HR HRR
        go_wp2
        go_ret
        exact ⟨rfl, unhide B⟩
end Go.Proofs.YtjplhiflemmkfaaGreatDoor.Hh
namespace Go.Proofs.YtjplhiflemmkfaaGreatDoor.Hh
open Go.RowKit Go.Maps

/-- why so many entries of these terms may not be put behind an index. -/
def putNo (b : Int) (rs : List Rw) (i t : Int) (ts : List Int) (n : Nat) : Nat :=
  if ts.length = n then (if climbsOf t ts = true then (if i < b then 1 else if b + (rs.length : Int) < i then 2 else if b < i ∧ termOf b rs i ≠ t then 2 else if i + (n : Int) ≤ 64 then 0 else 14) else 1) else 1

set_option maxHeartbeats 2000000 in
theorem hbarred_any {D : Nat → Prop} {w : World} {p : Nat} {b : Int} {rs : List Rw} (h : Hs D w p b rs) (hf : Fit b rs) (i t : Int) (ao : Option Addr) (m cap : Nat) (ts : List Int) (hm : ts.length = m) (hl : m ≤ 1000000) (n : Nat) (hn : n ≤ 1000000) (hts : IntsR w ao ts) :
    Calls Tryz.prog 228 #[.pointer (some ⟨p, 0, none⟩), .int .i64 i, .int .i64 t, .slice ao m cap, .int .i64 (n : Int)] w fun e w' => e = .returned (.int .i64 ((putNo b rs i t ts n : Nat) : Int)) ∧ Below w.heap.size w w' := by
  obtain ⟨R, hR⟩ : ∃ R, putNo b rs i t ts n = R := ⟨_, rfl⟩
  rw [hR]
  unfold putNo at hR
  rw [hm] at hR
  have hb0 := hf.b0
  have CL := hide (hclimbs_any t ao m cap ts hm hl w hts)
  have LA := hide (fun Y (hY : Below w.heap.size w Y) => last_any (h.below hY) hf)
  have TE := hide (fun Y (hY : Below w.heap.size w Y) => term_any (h.below hY) hf i)
  obtain ⟨⟨rv, hbx, _⟩, _, _⟩ := h
  have HX := hide hbx
  obtain ⟨L, hL⟩ : ∃ L, b + (rs.length : Int) = L := ⟨_, rfl⟩
  obtain ⟨q, hq⟩ : ∃ q, termOf b rs i = q := ⟨_, rfl⟩
  obtain ⟨c, hc⟩ : ∃ c, climbsOf t ts = c := ⟨_, rfl⟩
  rw [hL] at LA hR
  rw [hq] at TE hR
  rw [hc] at CL hR
  have HR := hide hR
  clear hR hL hq hc hbx hts hm hf
  by_cases h1 : m = n
  · subst h1
    have r1 := unhide HR
    rw [if_pos rfl] at r1
    have HR1 := hide r1
    clear r1 HR
    cases c
    · obtain rfl : 1 = R := by have := unhide HR1; simpa using this
      clear HR1
      go_enter Tryz.func228, Tryz.ntmps228
      go_wp2_with fail
      refine (unhide CL).mono ?_
      rintro e w1 ⟨rfl, b1⟩
      have B1 := hide b1
      clear b1 CL
      go_wp2
      go_ret
      exact ⟨rfl, unhide B1⟩
    · have r1 := unhide HR1
      rw [if_pos rfl] at r1
      have HR2 := hide r1
      clear r1 HR1
      go_enter Tryz.func228, Tryz.ntmps228
      go_wp2_with fail
      refine (unhide CL).mono ?_
      rintro e w1 ⟨rfl, b1⟩
      have B1 := hide b1
      have x1 := Below.stay b1 (unhide HX)
      have X1 := hide x1
      have c0 : w1.cell? ⟨p, 0, none⟩ = some (.int .i64 b) := (cell_of_block x1).trans rfl
      have L1 := hide (unhide LA _ b1)
      clear b1 CL LA x1
      by_cases h2 : i < b
      · obtain rfl : 1 = R := by have := unhide HR2; rwa [if_pos h2] at this
        clear HR2
        go_wp2
        go_ret
        exact ⟨rfl, unhide B1⟩
      · have r1 := unhide HR2
        rw [if_neg h2] at r1
        have HR3 := hide r1
        clear r1 HR2
        go_wp2_with fail
        refine (unhide L1).mono ?_
        rintro e w2 ⟨rfl, b2⟩
        have B2 := hide (below_far (unhide B1) b2)
        have x2 := Below.stay b2 (unhide X1)
        have c2 : w2.cell? ⟨p, 0, none⟩ = some (.int .i64 b) := (cell_of_block x2).trans rfl
        have T2 := hide (unhide TE _ (unhide B2))
        clear b2 L1 TE x2 c0 X1
        by_cases h3 : L < i
        · obtain rfl : 2 = R := by have := unhide HR3; rwa [if_pos h3] at this
          clear HR3
          go_wp2
          go_ret
          exact ⟨rfl, unhide B2⟩
        · have r1 := unhide HR3
          rw [if_neg h3] at r1
          have HR4 := hide r1
          clear r1 HR3
          have d3 : decide (L < i) = false := decide_eq_false h3
          clear h3
          by_cases h4 : b < i
          · go_wp2_with fail
            refine (unhide T2).mono ?_
            rintro e w3 ⟨rfl, b3⟩
            have B3 := hide (below_far (unhide B2) b3)
            clear b3 T2
            by_cases h5 : q = t
            · subst h5
              have r1 := unhide HR4
              rw [if_neg (fun x => x.2 (by simp))] at r1
              have HR5 := hide r1
              clear r1 HR4
              have FI := hide (fits_any i m (by omega) hl w3)
              go_wp2_with fail
              refine (unhide FI).mono ?_
              rintro e w4 ⟨rfl, hw⟩
              replace hw := hw.symm
              subst hw
              clear FI
              by_cases h6 : i + (m : Int) ≤ 64
              · obtain rfl : 0 = R := by have := unhide HR5; rwa [if_pos h6] at this
                clear HR5
                have d6 : decide (i + (m : Int) ≤ 64) = true := decide_eq_true h6
                clear h6
                go_wp2
                go_ret
                exact ⟨rfl, unhide B3⟩
              · obtain rfl : 14 = R := by have := unhide HR5; rwa [if_neg h6] at this
                clear HR5
                have d6 : decide (i + (m : Int) ≤ 64) = false := decide_eq_false h6
                clear h6
                go_wp2
                go_ret
                exact ⟨rfl, unhide B3⟩
            · obtain rfl : 2 = R := by have := unhide HR4; rwa [if_pos ⟨h4, h5⟩] at this
              have d5 : (q != t) = true := by rw [bne_iff_ne]; exact h5
              clear HR4 h5
              go_wp2
              go_ret
              exact ⟨rfl, unhide B3⟩
          · have r1 := unhide HR4
            rw [if_neg (fun x => h4 x.1)] at r1
            have HR5 := hide r1
            clear r1 HR4 T2
            have FI := hide (fits_any i m (by omega) hl w2)
            have d4 : decide (b < i) = false := decide_eq_false h4
            clear h4
            go_wp2_with fail
            refine (unhide FI).mono ?_
            rintro e w4 ⟨rfl, hw⟩
            replace hw := hw.symm
            subst hw
            clear FI
            by_cases h6 : i + (m : Int) ≤ 64
            · obtain rfl : 0 = R := by have := unhide HR5; rwa [if_pos h6] at this
              clear HR5
              have d6 : decide (i + (m : Int) ≤ 64) = true := decide_eq_true h6
              clear h6
              go_wp2
              go_ret
              exact ⟨rfl, unhide B2⟩
            · obtain rfl : 14 = R := by have := unhide HR5; rwa [if_neg h6] at this
              clear HR5
              have d6 : decide (i + (m : Int) ≤ 64) = false := decide_eq_false h6
              clear h6
              go_wp2
              go_ret
              exact ⟨rfl, unhide B2⟩
  · obtain rfl : 1 = R := by have := unhide HR; rwa [if_neg h1] at this
    have hne : ((m : Int) != (n : Int)) = true := by rw [bne_iff_ne]; omega
    clear HR h1
    go_enter Tryz.func228, Tryz.ntmps228
    go_wp2
    go_ret
    exact ⟨rfl, Below.refl _ _⟩
end Go.Proofs.YtjplhiflemmkfaaGreatDoor.Hh
