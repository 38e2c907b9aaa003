/- The reference's Reach: a contract. -/
import Derived.Test.YtjcidihcmbenhaaYRow
import Derived.Test.YtjcidihcmbenhaaKRefM
import Derived.Test.YtjcidihcmbenhaaKRefQ
namespace Go.Proofs.Ytjcidihcmbenhaa
open Go.RowKit Go.Maps

def bet (ms : List (Int × Int)) (x : Int) (j : Nat) : Bool := decide (x ≤ lastOf ms (j : Int))
theorem all_qAt {old new : List Int} (ho : Up old) (hn : Up new) (ms : List (Int × Int)) (x : Int) : quorumOf old new (allOf (bet ms x) 9) = qAt old new ms x := by
  refine quorum_by fun z hz => ?_
  have hr : 0 ≤ z ∧ z < 9 := by
    rcases hz with h | h
    · exact ho.2 z h
    · exact hn.2 z h
  rw [Bool.eq_iff_iff, List.contains_iff_mem, mem_allOf]
  constructor
  · rintro ⟨k, _, hb, rfl⟩; exact hb
  · intro h
    refine ⟨z.toNat, by omega, ?_, by omega⟩
    unfold bet
    rw [show ((z.toNat : Nat) : Int) = z by omega]; exact h
theorem lastT_yes {ms : List (Int × Int)} {k : Nat} {id A : Int} (h : k < ms.length) (_hA : lastOf (ms.take k) id = A) (he : (ms.getD k (0, 0)).1 = id) : lastOf (ms.take (k + 1)) id = (ms.getD k (0, 0)).2 := by
  rw [take_succ ms (0, 0) k h, lastOf_snoc, if_pos he]
theorem lastT_no {ms : List (Int × Int)} {k : Nat} {id A : Int} (h : k < ms.length) (hA : lastOf (ms.take k) id = A) (he : ¬ (ms.getD k (0, 0)).1 = id) : lastOf (ms.take (k + 1)) id = A := by
  rw [take_succ ms (0, 0) k h, lastOf_snoc, if_neg he, hA]
theorem getD_of_mem {ms : List (Int × Int)} {m : Int × Int} (h : m ∈ ms) : ∃ j, j < ms.length ∧ ms.getD j (0, 0) = m := by
  obtain ⟨j, hj, e⟩ := List.mem_iff_getElem.1 h
  exact ⟨j, hj, by rw [List.getD_eq_getElem?_getD, List.getElem?_eq_getElem hj]; exact e⟩

set_option maxRecDepth 20000 in
set_option maxHeartbeats 8000000 in
theorem rreach_any (ao an : Option Addr) (no nn co cn : Nat) (old new : List Int) (hno : old.length = no) (hnn : new.length = nn) (hlo : no ≤ 1000) (hln : nn ≤ 1000) (uo : Up old) (un : Up new) (al : Option Addr) (n cl : Nat) (ms : List (Int × Int)) (hn : ms.length = n) (hlm : n ≤ 1000) (w : World) (hO : IntsR w ao old) (hN : IntsR w an new) (hL : MkR w al ms) :
    Calls Try.prog 11 #[.agg #[.slice ao no co, .slice an nn cn], .slice al n cl] w fun e w' => ∃ r, e = .returned (.int .i64 r) ∧ ReachIs old new ms r ∧ Below w.heap.size w w' := by
  obtain ⟨W, hW, bW, xW, sW⟩ := boxed w (.slice ao no co) (.slice an nn cn)
  have SX := hide (fun (Y : World) (h : Below W.heap.size W Y) => two_cells (Below.stay h xW))
  have LL := hide (fun (Y : World) (h : Below W.heap.size W Y) => (hL.below bW).below h)
  have QU := hide (fun (Y : World) (h : Below W.heap.size W Y) (ay : Option Addr) (m d : Nat) (ys : List Int) (hm : ys.length = m) (hm9 : m ≤ 9) (hy : IntsR Y ay ys) => rquorum_any ao an no nn co cn old new hno hnn ay m d ys hm (by omega) (by omega) (by omega) Y ((hO.below bW).below h) ((hN.below bW).below h) hy)
  have AQ := hide (all_qAt uo un ms)
  have EN := hide hn
  have HW := hide hW
  have BW := hide bW
  clear hW bW xW sW hO hN hL hno hnn hn uo un
  go_enter Try.func11, Try.ntmps11
  go_wp2_with fail
  rw [unhide HW]
  clear HW
  go_loopw [6, 5, 7, 8, 9, 10, 11] (fun i s _ _ _ _ _ wr => ∃ (k : Nat) (b : Int), k ≤ n ∧ i = .int .i64 k ∧ s = .int .i64 b ∧ 0 ≤ b ∧ (0 < b → qAt old new ms b = true) ∧ (∀ j, j < k → b < (ms.getD j (0, 0)).2 → qAt old new ms (ms.getD j (0, 0)).2 = false) ∧ Below W.heap.size W wr) (fun i _ _ _ _ _ _ _ => n - (intOf i).toNat)
  case atStart => exact ⟨0, 0, Nat.zero_le _, rfl, rfl, Int.le_refl _, fun h => absurd h (by omega), fun j hj => by omega, Below.refl _ _⟩
  case round =>
    obtain ⟨k, b, hk, rfl, rfl, hb0, hbq, hbj, hbel⟩ := hrel
    have HQ := hide hbq
    have HJ := hide hbj
    have BEL := hide hbel
    clear hbq hbj
    by_cases hlt : k < n
    · obtain ⟨g, off, hg, d1, d2⟩ := unhide LL _ hbel k (by rw [unhide EN]; exact hlt)
      subst hg
      have q : (k : Int) < n := by omega
      obtain ⟨⟨x1, x⟩, hxk⟩ : ∃ p, ms.getD k (0, 0) = p := ⟨_, rfl⟩
      rw [hxk] at d1 d2
      have HXK := hide hxk
      clear hxk d1 hbel
      by_cases hle : x ≤ b
      · go_wp2
        go_roundw
        case rel =>
          refine ⟨k + 1, b, by omega, by go_num, rfl, hb0, unhide HQ, fun j hj => ?_, unhide BEL⟩
          by_cases hjk : j < k
          · exact unhide HJ j hjk
          · obtain rfl : j = k := by omega
            rw [unhide HXK]
            intro h; exact absurd h (by show ¬ b < x; omega)
        case measure => simp [intOf]; omega
      · obtain ⟨wk, hwk⟩ : ∃ wk, wk = wr := ⟨_, rfl⟩
        subst hwk
        have szk := (unhide BEL).size
        go_wp2_with fail
        go_loopw [9, 8, 10, 11] (fun i s _ _ wr => ∃ (d : Nat), d ≤ 9 ∧ i = .int .i64 d ∧ Ir wk.heap.size wr s (allOf (bet ms x) d) ∧ Below wk.heap.size wk wr) (fun i _ _ _ _ => 9 - (intOf i).toNat)
        case atStart => exact ⟨0, Nat.zero_le _, rfl, Ir.nil _ _, Below.refl _ _⟩
        case round =>
          obtain ⟨d, hd, rfl, hown, hbel⟩ := hrel
          have hlen := (all_up (bet ms x) d).2.2
          have EW := hide ((unhide BEL).trans (hbel.mono szk))
          have BK := hide hbel
          have HO := hide hown
          have szd := hbel.size
          by_cases hd9 : d < 9
          · have q9 : (d : Int) < 9 := by omega
            obtain ⟨wd, hwd⟩ : ∃ wd, wd = wr := ⟨_, rfl⟩
            subst hwd
            clear hown hbel
            go_wp2_with fail
            go_loopw [11, 10] (fun i s wr => ∃ (j : Nat) (A : Int), j ≤ n ∧ i = .int .i64 j ∧ s = .int .i64 A ∧ lastOf (ms.take j) (d : Int) = A ∧ wr = wd) (fun i _ _ => n - (intOf i).toNat)
            case atStart => exact ⟨0, 0, Nat.zero_le _, rfl, rfl, rfl, rfl⟩
            case round =>
              obtain ⟨j, A, hj, rfl, rfl, hA, hwr⟩ := hrel
              subst hwr
              have HA := hide hA
              clear hA
              by_cases hlj : j < n
              · have hjl : j < ms.length := by rw [unhide EN]; exact hlj
                obtain ⟨g2, off2, hg2, e1, e2⟩ := unhide LL _ (unhide EW) j hjl
                have qj : (j : Int) < n := by omega
                have Y1 := hide (lastT_yes hjl (unhide HA))
                have N1 := hide (lastT_no hjl (unhide HA))
                obtain ⟨⟨y1, y2⟩, hyk⟩ : ∃ p, ms.getD j (0, 0) = p := ⟨_, rfl⟩
                rw [hyk] at e1 e2 Y1 N1
                cases hg2
                clear hyk hjl
                by_cases hyd : y1 = (d : Int)
                · have F1 := hide (unhide Y1 hyd)
                  have hyd' : (y1 == (d : Int)) = true := by rw [beq_iff_eq]; exact hyd
                  clear Y1 N1 hyd
                  go_wp2
                  go_roundw
                  case rel => exact ⟨j + 1, y2, by omega, by go_num, rfl, unhide F1, trivial⟩
                  case measure => simp [intOf]; omega
                · have F1 := hide (unhide N1 hyd)
                  have hyd' : (y1 == (d : Int)) = false := by rw [beq_eq_false_iff_ne]; exact hyd
                  clear Y1 N1 hyd
                  go_wp2
                  go_roundw
                  case rel => exact ⟨j + 1, A, by omega, by go_num, rfl, unhide F1, trivial⟩
                  case measure => simp [intOf]; omega
              · obtain rfl : j = n := by omega
                have et : ms.take j = ms := by rw [← unhide EN, List.take_length]
                rw [et] at HA
                obtain ⟨l, hll⟩ : ∃ l, allOf (bet ms x) d = l := ⟨_, rfl⟩
                have YES := hide (all_yes (β := bet ms x) (k := d))
                have NO := hide (all_no (β := bet ms x) (k := d))
                rw [hll] at HO YES NO hlen
                have hbt : bet ms x d = decide (x ≤ A) := by unfold bet; rw [unhide HA]
                rw [hbt] at YES NO
                clear et hll hbt
                by_cases hxa : x ≤ A
                · have N1 := hide (unhide YES (decide_eq_true hxa))
                  have HLN : Hid (l.length + 1 ≤ 1000000000) := by show _ ≤ _; omega
                  clear YES NO hlen
                  go_wp2_with (at_builtin; refine wpList_app rfl (.tmp 51) (.tmp 53) rfl wk.heap.size _ l rfl ((unhide HO).below ((Below.refl _ _).alloc (Nat.le_refl _) _)) (some ⟨wr.heap.size, 0, none⟩) 1 1 [(d : Int)] rfl rfl (one_int _ _) (unhide HLN) (by simp; omega) ?_)
                  intro v' w' own' g'
                  have OWN := hide own'
                  have B' := hide (((unhide HO).below ((Below.refl _ _).alloc (Nat.le_refl _) (.cells #[.int .i64 (d : Int)] 3))).grown g' ((unhide BK).alloc szd _) (by simp; omega))
                  clear own' g'
                  go_wp2
                  go_roundw
                  case rel => exact ⟨d + 1, by omega, by go_num, by rw [unhide N1]; exact unhide OWN, unhide B'⟩
                  case measure => simp [intOf]; omega
                · have N1 := hide (unhide NO (decide_eq_false hxa))
                  clear YES NO hlen
                  go_wp2
                  go_roundw
                  case rel => exact ⟨d + 1, by omega, by go_num, by rw [unhide N1]; exact unhide HO, unhide BK⟩
                  case measure => simp [intOf]; omega
          · obtain rfl : d = 9 := by omega
            have aq := unhide AQ x
            obtain ⟨ay, dy, rfl, fy, -, -⟩ := hown.slice
            obtain ⟨m9, hm9⟩ : ∃ m9, (allOf (bet ms x) 9).length = m9 := ⟨_, rfl⟩
            have QX := hide (unhide QU _ (unhide EW) ay m9 dy _ hm9 (by omega) fy.1)
            rw [aq] at QX
            rw [hm9]
            obtain ⟨c0, c1⟩ := unhide SX _ (unhide EW)
            obtain ⟨R, hR⟩ : ∃ R, qAt old new ms x = R := ⟨_, rfl⟩
            rw [hR] at QX
            have HR := hide hR
            clear hown hbel fy aq hm9 hlen hR
            go_wp2_with fail
            refine (unhide QX).mono ?_
            rintro e w5 ⟨rfl, b5⟩
            have E5 := hide ((unhide EW).trans (b5.mono (unhide EW).size))
            clear b5 QX c0 c1
            cases R
            · go_wp2
              go_roundw
              case rel =>
                refine ⟨k + 1, b, by omega, by go_num, rfl, hb0, unhide HQ, fun j hj => ?_, unhide E5⟩
                by_cases hjk : j < k
                · exact unhide HJ j hjk
                · obtain rfl : j = k := by omega
                  rw [unhide HXK]
                  intro _; exact unhide HR
              case measure => simp [intOf]; omega
            · go_wp2
              go_roundw
              case rel =>
                refine ⟨k + 1, x, by omega, by go_num, rfl, by omega, fun _ => unhide HR, fun j hj => ?_, unhide E5⟩
                by_cases hjk : j < k
                · intro h; exact unhide HJ j hjk (by omega)
                · obtain rfl : j = k := by omega
                  rw [unhide HXK]
                  intro h; exact absurd h (by show ¬ x < x; omega)
              case measure => simp [intOf]; omega
    · obtain rfl : k = n := by omega
      have RI := hide (reach_ask (old := old) (new := new) (ms := ms) hb0 (unhide HQ) (fun m hm h => by
        obtain ⟨j, hj, e⟩ := getD_of_mem hm
        have := unhide HJ j (by rw [← unhide EN]; exact hj)
        rw [e] at this; exact this h))
      clear hbel
      go_wp2
      go_ret
      exact ⟨b, rfl, unhide RI, (unhide BW).trans ((unhide BEL).mono (unhide BW).size)⟩
end Go.Proofs.Ytjcidihcmbenhaa
