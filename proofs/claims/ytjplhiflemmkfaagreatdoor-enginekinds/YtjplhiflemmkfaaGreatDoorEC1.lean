/- chain: the past, opened, begin, New: contracts. slices.Grow, Concat of bytes: contracts. chain: New, what a fresh core tells and saves: contracts. -/
import Derived.Test.YtjplhiflemmkfaaGreatDoorEPRest
import Derived.Lib.AppendZerosOnto
import Derived.Shelf.Spec.SlicesGrow
namespace Go.Proofs.YtjplhiflemmkfaaGreatDoor
open Go.RowKit Go.Maps
attribute [local go_sem ↓] Go.wp_at_zero Go.wp_at_succ

/-- a past of which nothing is known: members, a base, no entries. -/
structure CPst (w : World) (p : Nat) (ao : Option Addr) (cap : Nat) (ms : List Int) (base : Int) : Prop where
  box : w.heap[p]? = some (.cells #[.slice ao ms.length cap, .int .i64 base, .slice none 0 0] 78 (0, 0))
  mem : Mbrs w ao cap ms
theorem CPst.below {w w' : World} {p : Nat} {ao : Option Addr} {cap : Nat} {ms : List Int} {base : Int} (h : CPst w p ao cap ms base) (hb : Below w.heap.size w w') : CPst w' p ao cap ms base := ⟨Below.stay hb h.box, h.mem.below hb⟩
theorem clists_fresh {p : Nat} {ao : Option Addr} {cap n : Nat} {ms : List Int} {base : Int} (hn : ms.length = n) (w : World) (h : CPst w p ao cap ms base) : Calls Tryz.prog 173 #[.pointer (some ⟨p, 0, none⟩)] w fun e w' => ∃ g, e = .returned (.slice (some ⟨g, 0, none⟩) 1 1) ∧ w'.heap[g]? = some (.cells #[.slice ao n cap] 24 (0, 0)) ∧ Below w.heap.size w w' := by
  subst hn
  have p0 : w.cell? ⟨p, 0, none⟩ = some (.slice ao ms.length cap) := (cell_of_block h.box).trans rfl
  have HX := hide h.box
  clear h
  go_enter Tryz.func173, Tryz.ntmps173
  go_upto_region 2 with fail
  obtain ⟨W, hW⟩ : ∃ W, w.alloc (.cells #[.slice ao ms.length cap] 24) = W := ⟨_, rfl⟩
  have bW : Below w.heap.size w W := by rw [← hW]; exact (Below.refl _ w).alloc (Nat.le_refl _) _
  obtain ⟨g, hg⟩ : ∃ g, w.heap.size = g := ⟨_, rfl⟩
  have xW : W.heap[g]? = some (.cells #[.slice ao ms.length cap] 24 (0, 0)) := by rw [← hg, ← hW]; exact box_at _ _
  rw [hW, hg]
  have p2 : W.cell? ⟨p, 2, none⟩ = some (.slice none 0 0) := (cell_of_block (Below.stay bW (unhide HX))).trans rfl
  have R := hide (And.intro xW bW)
  have HG := hide hg
  clear hW bW xW p0 hg
  go_wp2
  go_loopw [16, 3] (fun i s wr => i = .int .i64 0 ∧ s = .slice (some ⟨g, 0, none⟩) 1 1 ∧ wr = W) (fun _ _ _ => 0)
  case atStart => exact ⟨rfl, rfl, rfl⟩
  case round =>
    obtain ⟨rfl, rfl, rfl⟩ := hrel
    go_wp2
    go_ret
    exact ⟨g, rfl, (unhide R).1, (unhide R).2⟩
theorem ccount_fresh {p : Nat} {ao : Option Addr} {cap : Nat} {ms : List Int} {base : Int} (w : World) (h : CPst w p ao cap ms base) : Calls Tryz.prog 109 #[.pointer (some ⟨p, 0, none⟩)] w fun e w' => e = .returned (.int .i64 0) ∧ Below w.heap.size w w' := by
  have CL := hide (clists_fresh rfl w h)
  clear h
  go_enter Tryz.func109, Tryz.ntmps109
  go_wp2_with fail
  refine (unhide CL).mono ?_
  rintro e w1 ⟨g, rfl, _, b1⟩
  have B1 := hide b1
  clear CL b1
  go_wp2
  go_ret
  exact ⟨rfl, unhide B1⟩
theorem cmembers_fresh {p : Nat} {ao : Option Addr} {cap n : Nat} {ms : List Int} {base : Int} (hn : ms.length = n) (w : World) (h : CPst w p ao cap ms base) : Calls Tryz.prog 107 #[.pointer (some ⟨p, 0, none⟩)] w fun e w' => e = .returned (.slice ao n cap) ∧ Below w.heap.size w w' := by
  have CL := hide (clists_fresh hn w h)
  have HH := hide h
  clear h
  go_enter Tryz.func107, Tryz.ntmps107
  go_wp2_with fail
  refine (unhide CL).mono ?_
  rintro e w1 ⟨g, rfl, x1, b1⟩
  have CC := hide (ccount_fresh w1 ((unhide HH).below b1))
  have X1 := hide x1
  have B1 := hide b1
  clear CL b1 HH x1
  go_wp2_with fail
  refine (unhide CC).mono ?_
  rintro e w2 ⟨rfl, b2⟩
  have g0 : w2.cell? ⟨g, 0, none⟩ = some (.slice ao n cap) := (cell_of_block (Below.stay b2 (unhide X1))).trans rfl
  have B2 := hide (below_far (unhide B1) b2)
  clear CC b2 B1 X1
  go_wp2
  go_ret
  exact ⟨rfl, unhide B2⟩
theorem cend_fresh {p : Nat} {ao : Option Addr} {cap : Nat} {ms : List Int} {base : Int} (hb0 : 0 ≤ base) (hb1 : base ≤ 64) (w : World) (h : CPst w p ao cap ms base) : Calls Tryz.prog 108 #[.pointer (some ⟨p, 0, none⟩)] w fun e w' => e = .returned (.int .i64 base) ∧ Below w.heap.size w w' := by
  have f1 : ∀ s : Bel w, s.w.cell? ⟨p, 1, none⟩ = some (.int .i64 base) := fun s => s.cell ((cell_of_block h.box).trans rfl)
  have f2 : ∀ s : Bel w, s.w.cell? ⟨p, 2, none⟩ = some (.slice none 0 0) := fun s => s.cell ((cell_of_block h.box).trans rfl)
  have hw0 : IntKind.i64.wrap base = base := IntWalk.i64_in _ (by omega)
  clear h
  go_enter Tryz.func108, Tryz.ntmps108
  go_upto_region 1 with fail
  have nebel := Bel.ne w
  refine quiet_bel (by kernel_rfl) (by kernel_rfl) ?_
  repeat (go_big_quiet_step (first  | fail))
  refine wpQuiet_nil ?_
  intro wq hwq
  have bq := Bel.of hwq
  clear hwq nebel
  go_wp2
  go_ret
  exact ⟨rfl, bq⟩
set_option maxHeartbeats 1000000 in
theorem copened_fresh {p : Nat} {ao : Option Addr} {cap : Nat} {ms : List Int} {id base : Int} (hch : coreCheck id ms base = 0) (hc : Core0 id base ms) (w : World) (h : CPst w p ao cap ms base) : Calls Tryz.prog 54 #[.int .i64 id, .pointer (some ⟨p, 0, none⟩)] w fun e w' => ∃ i c, e = .returned (.pointer (some ⟨i, 0, none⟩)) ∧ w'.heap[i]? = some (.cells #[.pointer (some ⟨c, 0, none⟩), .int .i64 1] 101 (0, 0)) ∧ PNew w' c id ms base ∧ Below w.heap.size w w' := by
  obtain ⟨n, hn⟩ : ∃ n, ms.length = n := ⟨_, rfl⟩
  have hn7 : n ≤ 7 := by rw [← hn]; exact hc.len
  have CM := hide (cmembers_fresh hn w h)
  have CE := hide (fun (Y : World) (hY : Below w.heap.size w Y) => cend_fresh hc.b0 hc.b1 Y (h.below hY))
  have CC := hide (fun (Y : World) (hY : Below w.heap.size w Y) => ccount_fresh Y (h.below hY))
  have CN : Hid (∀ (Y : World) (_hY : Below w.heap.size w Y), Calls Tryz.prog 106 #[.int .i64 id, .slice ao n cap, .int .i64 base] Y fun e w' => ∃ c, e = .returned (.tuple #[.pointer (some ⟨c, 0, none⟩), .int .i64 0]) ∧ PNew w' c id ms base ∧ Below Y.heap.size Y w') := hide (fun Y hY => (pnew_any id base ao n cap ms hn (by omega) Y (h.mem.below hY).fr.1).mono (by rintro e w' ⟨_, k1, k2⟩; obtain ⟨c, k3, k4, _⟩ := k1 hch; exact ⟨c, k3, k4, k2⟩))
  clear h hn hc hch
  go_enter Tryz.func54, Tryz.ntmps54
  go_wp2_with fail
  refine (unhide CM).mono ?_
  rintro e w1 ⟨rfl, b1⟩
  have B1 := hide b1
  have CE1 := hide (unhide CE w1 b1)
  clear CM b1
  go_wp2_with fail
  refine (unhide CE1).mono ?_
  rintro e w2 ⟨rfl, b2⟩
  have B2 := hide (below_far (unhide B1) b2)
  have CN1 := hide (unhide CN w2 (unhide B2))
  clear CE1 b2 B1
  go_wp2_with fail
  refine (unhide CN1).mono ?_
  rintro e w3 ⟨c, rfl, p3, b3⟩
  have B3 := hide (below_far (unhide B2) b3)
  have P3 := hide p3
  have CC1 := hide (unhide CC w3 (unhide B3))
  clear CN1 b3 B2 p3
  go_wp2_with fail
  refine (unhide CC1).mono ?_
  rintro e w4 ⟨rfl, b4⟩
  have B4 := hide (below_far (unhide B3) b4)
  have P4 := hide ((unhide P3).below b4)
  clear CC1 b4 B3 P3
  go_wp2
  go_ret
  obtain ⟨w5, hw5⟩ : ∃ w5, w4.alloc (.cells #[.pointer (some ⟨c, 0, none⟩), .int .i64 1] 101) = w5 := ⟨_, rfl⟩
  have b5 : Below w4.heap.size w4 w5 := by rw [← hw5]; exact (Below.refl _ w4).alloc (Nat.le_refl _) _
  rw [hw5]
  exact ⟨_, c, rfl, by rw [← hw5]; exact box_at _ _, (unhide P4).below b5, below_far (unhide B4) b5⟩
/-- the cells of a chain's core of which k of the others' marks are laid. -/
def kn (base : Int) (k j : Nat) : Value := .int .i64 (if j < k then base else 0)
def knArr (p i : Nat) (id base : Int) (k : Nat) : Array Value := #[.pointer (some ⟨p, 0, none⟩), .pointer (some ⟨i, 0, none⟩), .int .i64 id, .slice none 0 0, kn base k 0, kn base k 1, kn base k 2, kn base k 3, kn base k 4, kn base k 5, kn base k 6, kn base k 7, kn base k 8, .int .i64 0]
theorem knArr_step (p i : Nat) (id base : Int) (k : Nat) (hk : k < 9) : (knArr p i id base k).setIfInBounds (4 + k) (.int .i64 base) = knArr p i id base (k + 1) := by
  have : k = 0 ∨ k = 1 ∨ k = 2 ∨ k = 3 ∨ k = 4 ∨ k = 5 ∨ k = 6 ∨ k = 7 ∨ k = 8 := by omega
  rcases this with rfl | rfl | rfl | rfl | rfl | rfl | rfl | rfl | rfl <;> rfl
theorem knArr_at (p i : Nat) (id base : Int) (k : Nat) (hk : k < 9) : (knArr p i id base k)[4 + k]? = some (.int .i64 0) := by
  have : k = 0 ∨ k = 1 ∨ k = 2 ∨ k = 3 ∨ k = 4 ∨ k = 5 ∨ k = 6 ∨ k = 7 ∨ k = 8 := by omega
  rcases this with rfl | rfl | rfl | rfl | rfl | rfl | rfl | rfl | rfl <;> rfl
/-- a chain's core, fresh. -/
structure CNew (w : World) (c : Nat) (id : Int) (ms : List Int) (base : Int) : Prop where
  ex : ∃ p i pc ao cap, w.heap[c]? = some (.cells (knArr p i id base 9) 98 (0, 0)) ∧ CPst w p ao cap ms base ∧ w.heap[i]? = some (.cells #[.pointer (some ⟨pc, 0, none⟩), .int .i64 1] 101 (0, 0)) ∧ PNew w pc id ms base
theorem CNew.below {w w' : World} {c : Nat} {id : Int} {ms : List Int} {base : Int} (h : CNew w c id ms base) (hb : Below w.heap.size w w') : CNew w' c id ms base := by
  obtain ⟨p, i, pc, ao, cap, h1, h2, h3, h4⟩ := h
  exact ⟨p, i, pc, ao, cap, Below.stay hb h1, h2.below hb, Below.stay hb h3, h4.below hb⟩
set_option maxRecDepth 20000 in
set_option maxHeartbeats 1000000 in
theorem cbegin_fresh {p i pc : Nat} {ao : Option Addr} {cap : Nat} {ms : List Int} {id base : Int} (w : World) (h : CPst w p ao cap ms base) (hi : w.heap[i]? = some (.cells #[.pointer (some ⟨pc, 0, none⟩), .int .i64 1] 101 (0, 0))) (hp : PNew w pc id ms base) : Calls Tryz.prog 53 #[.int .i64 id, .pointer (some ⟨p, 0, none⟩), .pointer (some ⟨i, 0, none⟩)] w fun e w' => ∃ c, e = .returned (.pointer (some ⟨c, 0, none⟩)) ∧ CNew w' c id ms base ∧ Below w.heap.size w w' := by
  have HP := hide h
  have H4 := hide (And.intro hi hp)
  have hpl := heap_lt h.box
  clear h hi hp
  go_enter Tryz.func53, Tryz.ntmps53
  go_upto_region 2 with fail
  obtain ⟨W, hW⟩ : ∃ W, w.alloc (.cells #[.pointer (some ⟨p, 0, none⟩), .pointer (some ⟨i, 0, none⟩), .int .i64 id, .slice none 0 0, .int .i64 0, .int .i64 0, .int .i64 0, .int .i64 0, .int .i64 0, .int .i64 0, .int .i64 0, .int .i64 0, .int .i64 0, .int .i64 0] 98) = W := ⟨_, rfl⟩
  have bW : Below w.heap.size w W := by rw [← hW]; exact (Below.refl _ w).alloc (Nat.le_refl _) _
  obtain ⟨c, hc⟩ : ∃ c, w.heap.size = c := ⟨_, rfl⟩
  have xW : W.heap[c]? = some (.cells (knArr p i id base 0) 98 (0, 0)) := by rw [← hc, ← hW]; exact box_at _ _
  rw [hW, hc]
  have hpc : p ≠ c := by omega
  have HC := hide hc
  have XW := hide (And.intro xW bW)
  have PC := hide hpc
  clear hW bW xW hc hpc hpl
  go_wp2
  go_loopw [14, 8] (fun k _ wr => ∃ j : Nat, j ≤ 9 ∧ k = .int .i64 j ∧ wr.heap[c]? = some (.cells (knArr p i id base j) 98 (0, 0)) ∧ Below w.heap.size w wr) (fun k _ _ => 9 - (intOf k).toNat)
  case atStart => exact ⟨0, by omega, rfl, (unhide XW).1, (unhide XW).2⟩
  case round =>
    obtain ⟨j, hj, rfl, hx, hb⟩ := hrel
    have HX := hide (And.intro hx hb)
    have p1 : wr.cell? ⟨p, 1, none⟩ = some (.int .i64 base) := (cell_of_block (Below.stay hb (unhide HP).box)).trans rfl
    by_cases hlt : j < 9
    · have cj : wr.cell? ⟨c, 4 + j, none⟩ = some (.int .i64 0) := (cell_of_block hx).trans (knArr_at p i id base j hlt)
      have fj : wr.frozen? ⟨c, 4 + j, none⟩ = false := free_of_block hx
      have q : (j : Int) < 9 := by omega
      have q0 : (0 : Int) ≤ (j : Int) := by omega
      have SX := hide (fun (Y : World) (hY : Kp (fun k => k = c) wr Y) => (show Y.cell? ⟨p, 1, none⟩ = some (.int .i64 base) from hY.cell p1 (unhide PC)))
      have EZ := hide (Kp.refl (fun k => k = c) wr)
      have cjd : wr.drew.cell? ⟨c, 4 + j, none⟩ = some (.int .i64 0) := cj
      have fjd : wr.drew.frozen? ⟨c, 4 + j, none⟩ = false := fj
      clear hx hb
      go_upto_region 5 with fail
      go_region_held3 (fun Y => Y.cell? ⟨p, 1, none⟩ = some (.int .i64 base)) (first | with_reducible exact unhide SX _ (unhide EZ) | with_reducible exact unhide SX _ (unhide EZ).drew | with_reducible exact unhide SX _ (Kp.setCell (unhide EZ) rfl _).drew | with_reducible exact unhide SX _ (Kp.setCell (unhide EZ).drew rfl _) | fail) (fail)
      go_wp2
      go_roundw
      case rel =>
        refine ⟨j + 1, by omega, by go_num, ?_, ?_⟩
        · exact (setCell_block (unhide HX).1).trans (by rw [knArr_step p i id base j hlt])
        · exact ((unhide HX).2.setCell (p := ⟨c, 4 + j, none⟩) (by show _ ≤ c; rw [unhide HC]; exact Nat.le_refl _) _).drew
      case measure => simp [intOf]; omega
    · obtain rfl : j = 9 := by omega
      clear hx hb
      go_wp2
      go_ret
      exact ⟨c, rfl, ⟨p, i, pc, ao, cap, (unhide HX).1, (unhide HP).below (unhide HX).2, Below.stay (unhide HX).2 (unhide H4).1, (unhide H4).2.below (unhide HX).2⟩, (unhide HX).2⟩
end Go.Proofs.YtjplhiflemmkfaaGreatDoor
namespace Go.Proofs.YtjplhiflemmkfaaGreatDoor
open Go.RowKit Go.Maps

set_option maxHeartbeats 1000000 in
theorem bgrow_any (n : Nat) (h0 : 0 < n) (hl : n ≤ 1000000) (w : World) :
    Calls Tryz.prog 155 #[.slice none 0 0, .int .i64 n] w fun e w' => ∃ v, e = .returned v ∧ Own w.heap.size w' v [] ∧ Below w.heap.size w w' := by
  obtain ⟨i0, hi0, hz0, hz1, hz2⟩ := info_parts Tryz.info5
  have hrz : ∀ ty, (Builtin.append_ #[55, 3] ty #[.slice none 0 0, .int .i64 (n : Int)]).run Tryz.prog w =
      .ok (.slice (some ⟨w.heap.size, 0, none⟩) (0 + n) (grownCap w (0 + n) 0 5)) (w.drew.alloc (.cells (#[] ++ Builtin.zeroCells (Value.int .u8 0).cells n ++ Builtin.zeroCells (Value.int .u8 0).cells (grownCap w (0 + n) 0 5 - (0 + n))) 5)) := fun ty =>
    Lib.run_append_grow_zeros w 55 3 ty 5 i0 (.int .u8 0) .i64 .i64 Tryz.underlying55 Tryz.underlying3 hi0 hz0 none 0 0 [] (run_firstCells_none w.drew i0.size 0 0 0) n h0 (by omega) (by omega) (by omega)
      (by rw [hz2]; omega) (growslice_fits (by omega) (by rw [hz2]; omega))
  have h1 := grownCap_ge w (0 + n) 0 5
  have h2 := grownCap_le_maxLen w (0 + n) 0 5 (by unfold maxLen; omega)
  obtain ⟨G, hG⟩ : ∃ G, grownCap w (0 + n) 0 5 = G := ⟨_, rfl⟩
  rw [hG] at hrz h1 h2
  have hn : (0 : Int) < n := by omega
  have hg0 : (0 : Int) ≤ (G : Int) := by omega
  have HS := hide (And.intro h1 h2)
  clear hG h1 h2 hi0 hz0 hz1 hz2
  go_enter Tryz.func155, Tryz.ntmps155
  go_wp2_with (at_builtin; refine Lib.wpList_append_run _ rfl _ _ _ _ rfl _ _ rfl rfl _ _ (hrz _) ?_)
  go_ret
  have hs := unhide HS
  refine ⟨_, rfl, ⟨⟨by simp [u8s], Or.inr ⟨w.heap.size, G, _, rfl, Nat.le_refl _, heap_alloc_new w _, Nat.zero_le _, hs.2, ?_, by simp [u8s]⟩⟩, by simp⟩, ((Below.refl _ w).alloc (Nat.le_refl _) _).drew⟩
  simp only [Array.size_append, size_zeroCells, List.size_toArray, List.length_cons, List.length_nil]
  omega
/-- rows of bytes, each a slice, that lie one behind the other. -/
def LiesB (w : World) (a : Addr) (ls : List (Value × List Nat)) : Prop :=
  ∀ i p, ls[i]? = some p → w.cell? (a.add i) = some p.1 ∧ ∃ ao n c, p.1 = .slice ao n c ∧ p.2.length = n ∧ Bytes w ao p.2 ∧ (ao = none → c = 0)
theorem LiesB.below {w w' : World} {a : Addr} {ls : List (Value × List Nat)} (h : LiesB w a ls) (hb : Below w.heap.size w w') : LiesB w' a ls := fun i p hp => by
  obtain ⟨h1, ao, n, c, h2, h3, h4, h5⟩ := h i p hp
  exact ⟨by rw [hb.cell (blk_lt h1)]; exact h1, ao, n, c, h2, h3, h4.below hb, h5⟩
def uptoB (ls : List (Value × List Nat)) (k : Nat) : List Nat := ((ls.take k).map (·.2)).flatten
theorem uptoB_succ {ls : List (Value × List Nat)} {k : Nat} {p : Value × List Nat} (h : ls[k]? = some p) : uptoB ls (k + 1) = uptoB ls k ++ p.2 := by
  unfold uptoB
  rw [List.take_add_one, h]; simp
theorem uptoB_le (ls : List (Value × List Nat)) (k : Nat) : (uptoB ls k).length ≤ ((ls.map (·.2)).flatten).length := by
  have e : (ls.map (·.2)).flatten = uptoB ls k ++ ((ls.drop k).map (·.2)).flatten := by
    unfold uptoB
    rw [← List.flatten_append, ← List.map_append, List.take_append_drop]
  rw [e, List.length_append]; omega
theorem uptoB_all (ls : List (Value × List Nat)) : uptoB ls ls.length = (ls.map (·.2)).flatten := by unfold uptoB; rw [List.take_length]

set_option maxHeartbeats 2000000 in
theorem bconcat_any (a : Addr) (m c : Nat) (ls : List (Value × List Nat)) (hm : ls.length = m) (hne : 0 < ((ls.map (·.2)).flatten).length) (hl : ((ls.map (·.2)).flatten).length ≤ 1000000) (hm2 : m ≤ 1000000) (w : World) (h : LiesB w a ls) :
    Calls Tryz.prog 85 #[.slice (some a) m c] w fun e w' => ∃ v, e = .returned v ∧ Own w.heap.size w' v ((ls.map (·.2)).flatten) ∧ Below w.heap.size w w' := by
  have HL := hide h
  have HM := hide hm
  have HT := hide hl
  have UA := hide (uptoB_all ls)
  rw [unhide HM] at UA
  have HN := hide hne
  clear h hm hl hne
  go_enter Tryz.func85, Tryz.ntmps85
  go_wp2_with fail
  go_loopw [11, 3, 5] (fun i s _ wr => ∃ k S : Nat, k ≤ m ∧ i = .int .i64 k ∧ s = .int .i64 S ∧ (uptoB ls k).length = S ∧ Below w.heap.size w wr) (fun i _ _ _ => m - (intOf i).toNat)
  case atStart => exact ⟨0, 0, Nat.zero_le _, rfl, rfl, rfl, Below.refl _ _⟩
  case round =>
    obtain ⟨k, S, hk, rfl, rfl, hS, hbel⟩ := hrel
    have BEL := hide hbel
    have HS := hide hS
    clear hbel hS
    by_cases hlt : k < m
    · obtain ⟨p, hp⟩ : ∃ p, ls[k]? = some p := ⟨_, List.getElem?_eq_getElem (by rw [unhide HM]; exact hlt)⟩
      obtain ⟨h1, ao, n, cc, e1, e2, h2, _⟩ := unhide HL k p hp
      have US := hide (uptoB_succ hp)
      have hle := uptoB_le ls (k + 1)
      rw [unhide US, List.length_append, unhide HS, e2] at hle
      have hle2 := unhide HT
      have c1 : wr.cell? (a.add k) = some (.slice ao n cc) := by rw [(unhide BEL).cell (blk_lt h1), h1, e1]
      have E2 := hide e2
      have q : (k : Int) < m := by omega
      have hsn : (S : Int) + (n : Int) ≤ 1000000 := by omega
      have hs0 : (0 : Int) ≤ (S : Int) + (n : Int) := by omega
      clear h1 e1 e2 h2 hle hle2 hp
      go_wp2
      go_roundw
      case rel =>
        refine ⟨k + 1, S + n, by omega, by go_num, by go_num, ?_, unhide BEL⟩
        rw [unhide US, List.length_append, unhide HS, unhide E2]
      case measure => simp [intOf]; omega
    · obtain rfl : k = m := by omega
      have GR := hide (bgrow_any S (by have := unhide HN; have h1 := unhide HS; rw [unhide UA] at h1; omega) (by have := uptoB_le ls k; have := unhide HT; have := unhide HS; omega) wr)
      go_wp2_with fail
      refine (unhide GR).mono ?_
      rintro e w2 ⟨v, rfl, o2, b2⟩
      have O2 := hide (o2.rebase (unhide BEL).size)
      have B2 := hide ((unhide BEL).trans (b2.mono (unhide BEL).size))
      clear o2 b2 GR
      go_wp2_with fail
      go_loopw [27, 6, 8] (fun i s _ wq => ∃ j : Nat, j ≤ k ∧ i = .int .i64 j ∧ Own w.heap.size wq s (uptoB ls j) ∧ Below w.heap.size w wq) (fun i _ _ _ => k - (intOf i).toNat)
      case atStart => exact ⟨0, Nat.zero_le _, rfl, unhide O2, unhide B2⟩
      case round =>
        obtain ⟨j, hj, rfl, own, bel⟩ := hrel
        have OW := hide own
        have BE := hide bel
        clear own bel
        by_cases hlt : j < k
        · obtain ⟨p, hp⟩ : ∃ p, ls[j]? = some p := ⟨_, List.getElem?_eq_getElem (by rw [unhide HM]; exact hlt)⟩
          obtain ⟨h1, ao, n, cc, e1, e2, h2, h3⟩ := unhide HL j p hp
          have US := hide (uptoB_succ hp)
          have hle := uptoB_le ls (j + 1)
          rw [unhide US, List.length_append, e2] at hle
          have hle2 := unhide HT
          have c1 : wr.cell? (a.add j) = some (.slice ao n cc) := by rw [(unhide BE).cell (blk_lt h1), h1, e1]
          have I2 := hide (h2.below (Below.mono (unhide BE) (Nat.le_refl _)))
          have E2 := hide (And.intro e2 h3)
          have q : (j : Int) < k := by omega
          have LE := hide (Nat.le_trans hle hle2)
          have sz := (unhide BE).size
          clear h1 e1 e2 h2 h3 hle hle2 hp
          go_wp2_with (at_builtin; refine wpList_append_bytes rfl (.tmp 31) (.tmp 32) rfl w.heap.size _ (uptoB ls j) _ rfl rfl (unhide OW) ao n cc p.2 rfl (unhide E2).1 (unhide I2) (unhide E2).2 (Nat.le_trans (unhide LE) (by decide)) sz ?_)
          intro ao' cap' w' own' b' _
          have OWN := hide own'
          have B' := hide ((unhide BE).trans b')
          clear own' b'
          go_wp2
          go_roundw
          case rel => exact ⟨j + 1, by omega, by go_num, by rw [unhide US]; exact unhide OWN, unhide B'⟩
          case measure => simp [intOf]; omega
        · obtain rfl : j = k := by omega
          go_wp2
          go_ret
          exact ⟨_, rfl, by rw [← unhide UA]; exact unhide OW, unhide BE⟩
end Go.Proofs.YtjplhiflemmkfaaGreatDoor
namespace Go.Proofs.YtjplhiflemmkfaaGreatDoor
open Go.RowKit Go.Maps
attribute [local go_sem ↓] Go.wp_at_zero Go.wp_at_succ

set_option maxRecDepth 20000 in
set_option maxHeartbeats 1000000 in
theorem cnew_any (id base : Int) (an : Option Addr) (nn cn : Nat) (ms : List Int) (hn : ms.length = nn) (hl : nn ≤ 1000000) (w : World) (hw : IntsR w an ms) :
    Calls Tryz.prog 9 #[.int .i64 id, .slice an nn cn, .int .i64 base] w fun e w' => (coreCheck id ms base ≠ 0 → e = .returned (.tuple #[.pointer none, .int .i64 ((coreCheck id ms base : Nat) : Int)])) ∧ (coreCheck id ms base = 0 → ∃ c, e = .returned (.tuple #[.pointer (some ⟨c, 0, none⟩), .int .i64 0]) ∧ CNew w' c id ms base) ∧ Below w.heap.size w w' := by
  have CC := hide (coreCheck_any id base an nn cn ms hn (by omega) w hw)
  have HN := hide hn
  have HW := hide hw
  obtain ⟨f, hf⟩ : ∃ f, coreCheck id ms base = f := ⟨_, rfl⟩
  rw [hf] at CC
  rw [hf]
  have HF := hide hf
  clear hf hn hw
  go_enter Tryz.func9, Tryz.ntmps9
  go_wp2_with fail
  refine (unhide CC).mono ?_
  rintro e w1 ⟨rfl, b1⟩
  have B1 := hide b1
  have FR := hide (clone_any an nn cn ms (unhide HN) hl w1 ((unhide HW).below b1))
  clear b1 CC
  by_cases hz : f = 0
  · subst hz
    go_wp2_with fail
    refine (unhide FR).mono ?_
    rintro e w2 ⟨v, rfl, i2, b2⟩
    obtain ⟨ao1, cap1, rfl, hfr, hle, hmx⟩ := i2.slice
    have hnul : ao1 = none → cap1 = 0 := by
      intro e0
      subst e0
      rcases i2.2 with ⟨e1, _⟩ | ⟨g, c, cur, e1, _⟩
      · simp only [Value.slice.injEq] at e1; exact e1.2.2
      · simp only [Value.slice.injEq] at e1; cases e1.1
    have M2 : Mbrs w2 ao1 cap1 ms := ⟨hfr, hle, hmx, hnul⟩
    have B2 := hide (below_far (unhide B1) b2)
    clear FR i2 b2 hfr hle hmx hnul B1
    go_upto_region 5 with fail
    obtain ⟨w3, hw3⟩ : ∃ w3, w2.alloc (.cells #[.slice ao1 ms.length cap1, .int .i64 base, .slice none 0 0] 78) = w3 := ⟨_, rfl⟩
    obtain ⟨p, hp⟩ : ∃ p, w2.heap.size = p := ⟨_, rfl⟩
    have b3 : Below w2.heap.size w2 w3 := by rw [← hw3]; exact (Below.refl _ w2).alloc (Nat.le_refl _) _
    have P3 : CPst w3 p ao1 cap1 ms base := ⟨by rw [← hp, ← hw3]; exact box_at _ _, M2.below b3⟩
    rw [hw3, hp]
    have PP := hide P3
    have B3 := hide (below_far (unhide B2) b3)
    have CO := hide (copened_fresh (unhide HF) (core0_of (unhide HF)) w3 P3)
    clear hw3 hp b3 P3 M2 B2
    go_wp2_with fail
    refine (unhide CO).mono ?_
    rintro e w4 ⟨i, pc, rfl, xi, pn, b4⟩
    have CB := hide (cbegin_fresh w4 ((unhide PP).below b4) xi pn)
    have B4 := hide (below_far (unhide B3) b4)
    clear CO xi pn b4 PP B3
    go_wp2_with fail
    refine (unhide CB).mono ?_
    rintro e w5 ⟨c, rfl, h5, b5⟩
    have R := hide (And.intro h5 (below_far (unhide B4) b5))
    clear CB h5 b5 B4
    go_wp2
    go_ret2
    exact ⟨⟨c, rfl, (unhide R).1⟩, (unhide R).2⟩
  · have hzi : ¬ ((f : Int) = 0) := by omega
    have hzb : ((f : Int) != 0) = true := by simp; omega
    have HZ := hide hz
    clear hz FR
    go_wp2
    go_ret2
    exact ⟨fun _ => rfl, fun h => absurd h (unhide HZ), unhide B1⟩
set_option maxRecDepth 20000 in
/-- paxos.Config of a fresh core: its list lies in memory of its own. -/
theorem pconfig_far {c : Nat} {id base : Int} {ms : List Int} (hl : ms.length ≤ 1000000) (w : World) (h : PNew w c id ms base) : Calls Tryz.prog 96 #[.pointer (some ⟨c, 0, none⟩)] w fun e w' => ∃ an cn, e = .returned (.agg #[.slice none 0 0, .slice an ms.length cn]) ∧ Fr w' an ms ∧ (∀ a, an = some a → w.heap.size ≤ a.block) ∧ Below w.heap.size w w' := by
  obtain ⟨W, hW⟩ : ∃ W, w.alloc (.cells #[.slice none 0 0, .slice none 0 0] 26) = W := ⟨_, rfl⟩
  have bW : Below w.heap.size w W := by rw [← hW]; exact (Below.refl _ w).alloc (Nat.le_refl _) _
  have xW : W.heap[w.heap.size]? = some (.cells #[.slice none 0 0, .slice none 0 0] 26 (0, 0)) := by rw [← hW]; exact box_at _ _
  obtain ⟨l, k, h1, h2, _⟩ := h.below bW
  obtain ⟨ao, cap, a, q, r, g1, g2, _, _, _, _, _, _⟩ := h2
  have c0 : W.cell? ⟨c, 0, none⟩ = some (.pointer (some ⟨l, 0, none⟩)) := (cell_of_block h1).trans rfl
  have c1 : W.cell? ⟨l, 0, none⟩ = some (.slice ao ms.length cap) := (cell_of_block g1).trans rfl
  have CC := hide (clone_any ao ms.length cap ms rfl hl W g2)
  have XW := hide xW
  have BW := hide bW
  have BWS : Hid (w.heap.size ≤ W.heap.size) := hide bW.size
  have HW := hide hW
  clear h1 g1 g2 xW bW hW h
  go_enter Tryz.func96, Tryz.ntmps96
  go_upto_region 1 with fail
  rw [unhide HW]
  clear HW
  go_wp2_with fail
  refine (unhide CC).mono ?_
  rintro e w1 ⟨v, rfl, i1, b1⟩
  obtain ⟨ao1, cap1, rfl, hfr, _, _⟩ := i1.slice
  have x1 := Below.stay b1 (unhide XW)
  have d0 : w1.cell? ⟨w.heap.size, 0, none⟩ = some (.slice none 0 0) := (cell_of_block x1).trans rfl
  have d1 : w1.cell? ⟨w.heap.size, 1, none⟩ = some (.slice none 0 0) := (cell_of_block x1).trans rfl
  have f0 : ∀ i, w1.frozen? ⟨w.heap.size, i, none⟩ = false := fun i => free_of_block x1
  have I1 := hide i1
  have X1 := hide x1
  have B1 := hide (below_far (unhide BW) b1)
  clear CC i1 b1 hfr x1
  go_wp2
  obtain ⟨w2, hw2⟩ : ∃ w2 : World, w2 = (w1.setCell ⟨w.heap.size, 0, none⟩ (.slice none 0 0)).setCell ⟨w.heap.size, 1, none⟩ (.slice ao1 ms.length cap1) := ⟨_, rfl⟩
  rw [← hw2]
  have q2 : Only w.heap.size [26] w1 w2 ∧ w2.heap[w.heap.size]? = some (.cells #[.slice none 0 0, .slice ao1 ms.length cap1] 26 (0, 0)) := by
    rw [hw2]
    exact set_one (set_one ⟨Only.refl _ _ _, unhide X1⟩ (Nat.le_refl _) (by simp) 0 _) (Nat.le_refl _) (by simp) 1 _
  have e0 : w2.cell? ⟨w.heap.size, 0, none⟩ = some (.slice none 0 0) := (cell_of_block q2.2).trans rfl
  have e1 : w2.cell? ⟨w.heap.size, 1, none⟩ = some (.slice ao1 ms.length cap1) := (cell_of_block q2.2).trans rfl
  have i2 := own_only (unhide I1) q2.1 (by decide)
  obtain ⟨ao2, cap2, ev, hfr2, _, _⟩ := Ir.slice i2
  simp only [Value.slice.injEq] at ev
  obtain ⟨rfl, -, rfl⟩ := ev
  refine bodyPost_ret (v := .agg #[.slice none 0 0, .slice ao1 ms.length cap1]) (by simp [results, Tryz.results96, go_sem, e0, e1]) rfl ?_
  exact ⟨ao1, cap1, rfl, hfr2, fun a ha => Nat.le_trans (unhide BWS) (Hh.Ir.blk (unhide I1) a ha), (unhide B1).trans q2.1.below⟩
theorem ccommit_fresh {c : Nat} {id base : Int} {ms : List Int} (hb0 : 0 ≤ base) (hb1 : base ≤ 64) (w : World) (h : CNew w c id ms base) : Calls Tryz.prog 28 #[.pointer (some ⟨c, 0, none⟩)] w fun e w' => e = .returned (.int .i64 base) ∧ Below w.heap.size w w' := by
  obtain ⟨p, i, pc, ao, cap, h1, h2, h3, h4⟩ := h
  have c1 : w.cell? ⟨c, 1, none⟩ = some (.pointer (some ⟨i, 0, none⟩)) := (cell_of_block h1).trans rfl
  have i0 : w.cell? ⟨i, 0, none⟩ = some (.pointer (some ⟨pc, 0, none⟩)) := (cell_of_block h3).trans rfl
  have CC := hide (commit_fresh hb0 hb1 w h4)
  clear h1 h2 h3 h4
  go_enter Tryz.func28, Tryz.ntmps28
  go_wp2_with fail
  refine (unhide CC).mono ?_
  rintro e w1 ⟨rfl, b1⟩
  go_wp2
  go_ret
  exact ⟨rfl, by first | exact b1 | (subst b1; exact Below.refl _ _)⟩
theorem crole_fresh {c : Nat} {id base : Int} {ms : List Int} (w : World) (h : CNew w c id ms base) : Calls Tryz.prog 30 #[.pointer (some ⟨c, 0, none⟩)] w fun e w' => e = .returned (.int .i64 0) ∧ Below w.heap.size w w' := by
  obtain ⟨p, i, pc, ao, cap, h1, h2, h3, h4⟩ := h
  have c1 : w.cell? ⟨c, 1, none⟩ = some (.pointer (some ⟨i, 0, none⟩)) := (cell_of_block h1).trans rfl
  have i0 : w.cell? ⟨i, 0, none⟩ = some (.pointer (some ⟨pc, 0, none⟩)) := (cell_of_block h3).trans rfl
  have CC := hide (role_fresh w h4)
  clear h1 h2 h3 h4
  go_enter Tryz.func30, Tryz.ntmps30
  go_wp2_with fail
  refine (unhide CC).mono ?_
  rintro e w1 ⟨rfl, b1⟩
  go_wp2
  go_ret
  exact ⟨rfl, by first | exact b1 | (subst b1; exact Below.refl _ _)⟩
theorem csealed_fresh {c : Nat} {id base : Int} {ms : List Int} (hb0 : 0 ≤ base) (hb1 : base ≤ 64) (w : World) (h : CNew w c id ms base) : Calls Tryz.prog 34 #[.pointer (some ⟨c, 0, none⟩)] w fun e w' => e = .returned (.bool false) ∧ Below w.heap.size w w' := by
  obtain ⟨p, i, pc, ao, cap, h1, h2, h3, h4⟩ := h
  have c1 : w.cell? ⟨c, 1, none⟩ = some (.pointer (some ⟨i, 0, none⟩)) := (cell_of_block h1).trans rfl
  have i0 : w.cell? ⟨i, 0, none⟩ = some (.pointer (some ⟨pc, 0, none⟩)) := (cell_of_block h3).trans rfl
  have CC := hide (sealed_fresh hb0 hb1 w h4)
  clear h1 h2 h3 h4
  go_enter Tryz.func34, Tryz.ntmps34
  go_wp2_with fail
  refine (unhide CC).mono ?_
  rintro e w1 ⟨rfl, b1⟩
  go_wp2
  go_ret
  exact ⟨rfl, by first | exact b1 | (subst b1; exact Below.refl _ _)⟩
theorem cconfig_fresh {c : Nat} {id base : Int} {ms : List Int} (hl : ms.length ≤ 1000000) (w : World) (h : CNew w c id ms base) : Calls Tryz.prog 37 #[.pointer (some ⟨c, 0, none⟩)] w fun e w' => ∃ ao co an cn, e = .returned (.agg #[.slice ao 0 co, .slice an ms.length cn]) ∧ Fr w' an ms ∧ Below w.heap.size w w' := by
  obtain ⟨W, hW⟩ : ∃ W, w.alloc (.cells #[.slice none 0 0, .slice none 0 0] 26) = W := ⟨_, rfl⟩
  have bW : Below w.heap.size w W := by rw [← hW]; exact (Below.refl _ w).alloc (Nat.le_refl _) _
  have xW : W.heap[w.heap.size]? = some (.cells #[.slice none 0 0, .slice none 0 0] 26 (0, 0)) := by rw [← hW]; exact box_at _ _
  obtain ⟨p, i, pc, ao, cap, h1, h2, h3, h4⟩ := h.below bW
  have c1 : W.cell? ⟨c, 1, none⟩ = some (.pointer (some ⟨i, 0, none⟩)) := (cell_of_block h1).trans rfl
  have i0 : W.cell? ⟨i, 0, none⟩ = some (.pointer (some ⟨pc, 0, none⟩)) := (cell_of_block h3).trans rfl
  have CC := hide (pconfig_far hl W h4)
  have XW := hide xW
  have BW := hide bW
  have HW := hide hW
  clear h1 h2 h3 h4 xW bW hW h
  go_enter Tryz.func37, Tryz.ntmps37
  go_upto_region 1 with fail
  rw [unhide HW]
  clear HW
  go_wp2_with fail
  refine (unhide CC).mono ?_
  rintro e w1 ⟨an, cn, rfl, i1, f1, b1⟩
  have x1 := Below.stay b1 (unhide XW)
  have d0 : w1.cell? ⟨w.heap.size, 0, none⟩ = some (.slice none 0 0) := (cell_of_block x1).trans rfl
  have d1 : w1.cell? ⟨w.heap.size, 1, none⟩ = some (.slice none 0 0) := (cell_of_block x1).trans rfl
  have f0 : ∀ i, w1.frozen? ⟨w.heap.size, i, none⟩ = false := fun i => free_of_block x1
  have ww : w.heap.size < W.heap.size := heap_lt (unhide XW)
  have R := hide (And.intro i1 (And.intro (fun (a : Addr) (ha : an = some a) => show a.block ≠ w.heap.size by have := f1 a ha; omega) (And.intro x1 (below_far (unhide BW) b1))))
  clear CC i1 f1 b1 x1 ww BW XW
  go_wp2
  obtain ⟨r0, r1, rb, rk⟩ := Hh.two_end (a := .slice none 0 0) (b := .slice an ms.length cn) (unhide R).2.2.1 (Nat.le_refl _) (unhide R).2.2.2
  refine bodyPost_ret (v := .agg #[.slice none 0 0, .slice an ms.length cn]) (by simp [results, Tryz.results37, go_sem, r0, r1]) rfl ?_
  exact ⟨none, 0, an, cn, rfl, Hh.Fr.other (unhide R).1 rk (unhide R).2.1, rb⟩
end Go.Proofs.YtjplhiflemmkfaaGreatDoor
