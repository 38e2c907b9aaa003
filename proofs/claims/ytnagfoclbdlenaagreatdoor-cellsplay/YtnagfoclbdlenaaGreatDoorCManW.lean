/- CellsMany: the walk. -/
import Derived.Test.YtnagfoclbdlenaaGreatDoorCRefA
import Derived.Test.YtnagfoclbdlenaaGreatDoorWArgs
import Derived.Deep.RegionHeldLaw
namespace Go.Proofs.YtnagfoclbdlenaaGreatDoor
open Go.RowKit Go.Maps

theorem csize_any {base cp l b c p : Nat} {q : Option Nat} {s : St} {n : Nat} {f : Int → List Nat} (w : World) (hC : Cs base w cp l b f c) (hL : Lg base w l p q s n) :
    Calls Tryz.prog 17 #[.pointer (some ⟨cp, 0, none⟩)] w fun e w' => e = .returned (.int .i64 (n : Int)) ∧ w' = w := by
  have c0 := hC.log
  have SZ := hide (wsize_any base l p q s n w hL)
  clear hC hL
  go_enter Tryz.func17, Tryz.ntmps17
  go_wp2_with fail
  refine (unhide SZ).mono ?_
  rintro e w1 ⟨rfl, hw⟩
  replace hw := hw.symm
  subst hw
  go_wp2
  go_ret
  exact ⟨rfl, rfl⟩
/-- the law's own bytes. -/
def bsOf (k m : Nat) : List Nat := if m = 0 then [] else k :: zeros (m - 1)
theorem bs_len (k m : Nat) : (bsOf k m).length = m := by
  unfold bsOf; split
  · rename_i h; rw [h]; rfl
  · rw [List.length_cons, zeros_length]; omega
theorem bs_lt {k m : Nat} (hk : k < 256) : ∀ x ∈ bsOf k m, x < 256 := by
  unfold bsOf; split
  · simp
  · intro x hx
    rcases List.mem_cons.1 hx with rfl | hx
    · exact hk
    · exact zeros_lt _ x hx
theorem refuse_one {x : Int} {bs : List Nat} (hx : 0 ≤ x ∧ x < 8) (hb : bs.length ≤ 12000) : refuseOf (fun _ => false) [(x, bs)] = 0 := by
  have h1 : oneOf (fun _ => false) x bs.length = 0 := by
    unfold oneOf
    rw [if_neg (fun h => h hx), if_neg (by simp), if_neg (by omega)]
  show (if oneOf (fun _ => false) x bs.length = 0 then _ else _) = 0
  rw [if_pos h1]; rfl
theorem set_at (f : Int → List Nat) (x : Int) (bs : List Nat) : setF f [(x, bs)] x = bs := by
  show upF f x bs x = bs
  unfold upF; rw [if_pos rfl]
theorem set_within {f : Int → List Nat} (h : Within f) {x : Int} (hx : 0 ≤ x ∧ x < 8) (bs : List Nat) : Within (setF f [(x, bs)]) := fun y hy => by
  by_cases e : y = x
  · rw [e]; exact hx
  · refine h y ?_
    have : setF f [(x, bs)] y = f y := by show upF f x bs y = f y; unfold upF; rw [if_neg e]
    rw [← this]; exact hy
/-- cells, their log, their tape, all as they should be. -/
def Good (base : Nat) (w0 w : World) (cp l p : Nat) (g a : Addr) (f : Int → List Nat) (k : Nat) : Prop :=
  ∃ b c q n ops, Cs base w cp l b f c ∧ Lg base w l p q (Ls 400000 (rows f) n ops) n ∧ takes (rows f) = n ∧ Within f ∧ (∀ x, (f x).length ≤ 12000) ∧ c ≤ 8 + k ∧ ops ≤ k ∧ Start w g a ∧ Below base w0 w ∧ base ≤ w.heap.size
theorem Good.below {base : Nat} {w0 w w' : World} {cp l p : Nat} {g a : Addr} {f : Int → List Nat} {k : Nat} (h : Good base w0 w cp l p g a f k) (hb : Below w.heap.size w w') : Good base w0 w' cp l p g a f k := by
  obtain ⟨b, c, q, n, ops, h1, h2, h3, h4, h5, h6, h7, h8, h9, h10⟩ := h
  exact ⟨b, c, q, n, ops, h1.below hb, h2.below hb, h3, h4, h5, h6, h7, h8.below hb, h9.trans (hb.mono h10), Nat.le_trans h10 hb.size⟩
/-- Put of one cell, and all that may be asked behind it. -/
theorem gput {base : Nat} {w0 : World} {cp l p : Nat} {g a : Addr} {f : Int → List Nat} {k : Nat} (x : Int) (hx : 0 ≤ x ∧ x < 8) (bs : List Nat) (hbl : bs.length ≤ 12000) (ao : Option Addr) (cap : Nat) (hk : k ≤ 1000) (hz : 4 ≤ base) (w : World) (h : Good base w0 w cp l p g a f k) (hat : CAt w ao [(x, bs)]) :
    Calls Tryz.prog 14 #[.pointer (some ⟨cp, 0, none⟩), .slice ao 1 cap] w fun e w' => e = .returned (.int .i64 0) ∧ Good base w0 w' cp l p g a (setF f [(x, bs)]) (k + 1) ∧ Kept base (fun j => (j = l ∨ j = p) ∨ j = cp) w w' := by
  obtain ⟨b, c, q, n, ops, h1, h2, h3, h4, h5, h6, h7, h8, h9, h10⟩ := h
  refine (nput g a ao 1 cap [(x, bs)] rfl (by decide) (by decide) w h1 (by omega) h2 h8 h10 (by omega) hat (fun c hc => by simp at hc; subst hc; exact wf_small64 (by show -1000000 ≤ x ∧ x ≤ 1000000; omega)) h5 (refuse_one hx hbl) (by decide) _ rfl _ rfl).mono ?_
  rintro e w' ⟨rfl, q', b', c', l', k', -⟩
  refine ⟨rfl, ⟨b', c + 1, q', _, ops + 1, c', l', rfl, set_within h4 hx bs, setF_len h5 (fun c hc => by simp at hc; subst hc; exact hbl), by omega, by omega, h8.keptd k' hz, h9.trans k'.1, Nat.le_trans h10 k'.1.size⟩, k'⟩
theorem gsize {base : Nat} {w0 : World} {cp l p : Nat} {g a : Addr} {f : Int → List Nat} {k : Nat} (w : World) (h : Good base w0 w cp l p g a f k) :
    Calls Tryz.prog 17 #[.pointer (some ⟨cp, 0, none⟩)] w fun e w' => ∃ n : Nat, n ≤ 96072 ∧ e = .returned (.int .i64 (n : Int)) ∧ w' = w := by
  obtain ⟨b, c, q, n, ops, h1, h2, h3, h4, h5, -⟩ := h
  refine (csize_any w h1 h2).mono ?_
  rintro e w' ⟨rfl, rfl⟩
  exact ⟨n, by rw [← h3]; exact takes_rows h5, rfl, rfl⟩
theorem gget {base : Nat} {w0 : World} {cp l p : Nat} {g a : Addr} {f : Int → List Nat} {k : Nat} (x : Int) (hx : 0 ≤ x ∧ x < 8) (w : World) (h : Good base w0 w cp l p g a f k) :
    Calls Tryz.prog 22 #[.pointer (some ⟨cp, 0, none⟩), .int .i64 x] w fun e w' => ∃ v, e = .returned v ∧ Own w.heap.size w' v (f x) ∧ Below w.heap.size w w' := by
  obtain ⟨b, c, q, n, ops, h1, h2, h3, h4, h5, -⟩ := h
  refine (get_any x (wf_small64 (by omega)) w h1 (Nat.le_trans (h5 x) (by decide))).mono ?_
  rintro e w' ⟨v, rfl, ov, -, b'⟩
  exact ⟨v, rfl, ov, b'⟩
theorem CRow.len {base : Nat} {w : World} {v : Value} {l : List (Int × List Nat)} (h : CRow base w v l) : ∃ ao cap, v = .slice ao l.length cap := by
  obtain ⟨xs, h1, _⟩ := h
  rcases h1.2 with ⟨rfl, h0⟩ | ⟨g, cap, cur, rfl, _⟩
  · rw [h0]; exact ⟨none, 0, rfl⟩
  · exact ⟨_, cap, rfl⟩
theorem gall {base : Nat} {w0 : World} {cp l p : Nat} {g a : Addr} {f : Int → List Nat} {k : Nat} (hk : k ≤ 1000) (w : World) (h : Good base w0 w cp l p g a f k) :
    Calls Tryz.prog 23 #[.pointer (some ⟨cp, 0, none⟩)] w fun e w' => ∃ ao cap, e = .returned (.slice ao (cellsOf f).length cap) ∧ Below w.heap.size w w' := by
  obtain ⟨b, c, q, n, ops, h1, h2, h3, h4, h5, h6, -⟩ := h
  refine (all_any w h1 (by omega) (fun x => Nat.le_trans (h5 x) (by decide))).mono ?_
  rintro e w' ⟨v, rfl, rv, b'⟩
  obtain ⟨ao, cap, rfl⟩ := rv.len
  exact ⟨ao, cap, rfl, b'⟩
/-- Open anew: what is opened, and what was open, hold the same. -/
theorem gopen {base : Nat} {w0 : World} {cp l p : Nat} {g a : Addr} {f : Int → List Nat} {k : Nat} (w : World) (h : Good base w0 w cp l p g a f k) :
    Calls Tryz.prog 11 #[.pointer (some ⟨p, 0, none⟩)] w fun e w' => ∃ cp' l', e = .returned (.tuple #[.pointer (some ⟨cp', 0, none⟩), .int .i64 0]) ∧ Good base w0 w' cp l p g a f k ∧ Good base w0 w' cp' l' p g a f k ∧ Below w.heap.size w w' := by
  have hg := h
  obtain ⟨b, c, q, n, ops, h1, h2, h3, h4, h5, h6, h7, h8, h9, h10⟩ := h
  refine (copen base p q 400000 n ops n f g a w h2.tape h8 h10 (fit_rows (fun x => h1.2.2.bytes x) h5) h3 (by decide) h4 (fun x => Nat.le_trans (h5 x) (by decide))).mono ?_
  rintro e w' ⟨cp', l', b', rfl, -, -, -, c', l'', bb⟩
  exact ⟨cp', l', rfl, hg.below bb, ⟨b', 8, q, n, ops, c', l'', h3, h4, h5, by omega, h7, h8.below bb, h9.trans (bb.mono h10), Nat.le_trans h10 bb.size⟩, bb⟩
theorem gfirst {base p : Nat} {g a : Addr} (w0 w : World) (t : Tp base w p none ⟨400000, [], 0, 0, 0, false⟩) (hS : Start w g a) (hb : base ≤ w.heap.size) (h0 : Below base w0 w) :
    Calls Tryz.prog 11 #[.pointer (some ⟨p, 0, none⟩)] w fun e w' => ∃ cp l, e = .returned (.tuple #[.pointer (some ⟨cp, 0, none⟩), .int .i64 0]) ∧ Good base w0 w' cp l p g a noF 0 ∧ Below w.heap.size w w' := by
  refine (copen base p none 400000 0 0 0 noF g a w (by rw [rows_none]; exact t) hS hb (by rw [rows_none]; exact Fit.nil) (by rw [rows_none]; rfl) (by decide) (fun x h => absurd rfl h) (fun x => Nat.zero_le _)).mono ?_
  rintro e w' ⟨cp, l, b, rfl, -, -, -, c', l', bb⟩
  exact ⟨cp, l, rfl, ⟨b, 8, none, 0, 0, c', l', by rw [rows_none]; rfl, fun x h => absurd rfl h, fun x => Nat.zero_le _, by omega, Nat.le_refl _, hS.below bb, h0.trans (bb.mono hb), Nat.le_trans hb bb.size⟩, bb⟩
/-- the bytes of a block are there still. -/
theorem Good.bytes {base : Nat} {w0 w w' : World} {cp l p : Nat} {g a : Addr} {f : Int → List Nat} {k : Nat} (h : Good base w0 w cp l p g a f k) {A : Nat} {xs : Array Value} {fr : Nat × Nat} (hA : w.heap[A]? = some (.cells xs 5 fr)) (hk : Kept base (fun j => (j = l ∨ j = p) ∨ j = cp) w w') : w'.heap[A]? = some (.cells xs 5 fr) := by
  obtain ⟨b, c, q, n, ops, h1, h2, -⟩ := h
  refine (hk.2 A (blk_lt' hA) ?_).trans hA
  rintro (e | e)
  · obtain ⟨ys, t, fr', h3, h4⟩ := h2.tags A e
    rw [hA] at h3; cases h3; exact h4 rfl
  · subst e
    have := h1.2.1
    rw [hA] at this
    cases this
end Go.Proofs.YtnagfoclbdlenaaGreatDoor
