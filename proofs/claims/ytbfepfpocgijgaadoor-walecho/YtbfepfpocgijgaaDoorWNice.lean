/- A log where nothing goes wrong: its calls. -/
import Derived.Test.YtbfepfpocgijgaaDoorWSmall2
namespace Go.Proofs.YtbfepfpocgijgaaDoor
open Go.RowKit

/-- a tape that holds whole records, and whose power is there and will not go. -/
def Ls (room : Nat) (xs : List (List Nat)) (syn ops : Nat) : St := ⟨room, cats xs, syn, ops, 0, false⟩

theorem ls_append {room : Nat} {xs : List (List Nat)} {syn ops : Nat} {x : List Nat} (h : takes xs + (8 + x.length) ≤ room) : (Ls room xs syn ops).append (frame x) = (0, Ls room (xs ++ [x]) syn (ops + 1)) := by
  rw [append_ok _ _ rfl (by simp only [Ls, cats_len, frame_length]; exact h) (by simp [Ls])]
  simp only [Ls, cats_snoc]
theorem ls_sync {room : Nat} {xs : List (List Nat)} {syn ops : Nat} (h : takes xs ≤ room) : (Ls room xs syn ops).sync = (0, Ls room xs (takes xs) (ops + 1)) := by
  rw [sync_ok _ rfl (by simp only [Ls, cats_len]; exact h) (by simp [Ls])]
  simp only [Ls, cats_len]
theorem ls_replace {room : Nat} {xs ys : List (List Nat)} {syn ops : Nat} (h : takes ys ≤ room) : (Ls room xs syn ops).replace (cats ys) = (0, Ls room ys (takes ys) (ops + 1)) := by
  rw [replace_ok _ _ rfl (by simp only [Ls, cats_len]; exact h) (by simp [Ls])]
  simp only [Ls, cats_len]
theorem Lg.fits {base : Nat} {w : World} {l p : Nat} {q : Option Nat} {room syn ops n : Nat} {xs : List (List Nat)} (h : Lg base w l p q (Ls room xs syn ops) n) : syn ≤ takes xs ∧ takes xs ≤ room := by
  have := h.tape.fits
  simpa only [Ls, cats_len] using this

theorem nappend (base l p : Nat) (q : Option Nat) (room syn ops n : Nat) (xs : List (List Nat)) (g a : Addr) (ao : Option Addr) (m cap : Nat) (x : List Nat) (hm : x.length = m) (w : World) (h : Lg base w l p q (Ls room xs syn ops) n) (hS : Start w g a) (hgz : 4 ≤ base) (hb : base ≤ w.heap.size) (hn : takes xs = n) (ho : ops ≤ 1000000)
    (hby : Bytes w ao x) (hcap : ao = none → cap = 0) (hmc : m ≤ cap) (hbl : m ≤ 65536) (hroom : room ≤ 1000000000) (hfit : n + (8 + m) ≤ room) :
    Calls Tryd.prog 13 #[.pointer (some ⟨l, 0, none⟩), .slice ao m cap] w fun e w' => ∃ q', e = .returned (.int .i64 0) ∧ Lg base w' l p q' (Ls room (xs ++ [x]) syn (ops + 1)) (n + (8 + m)) ∧ Kept base (lfoot l p q) w w' ∧ Fresh w q q' :=
  wappend_any base l p q _ n g a ao m cap x hm w h hS hgz hb (by simp only [Ls]; omega) (by simp [Ls]) (by omega) hby hcap hmc hbl 0 _ (ls_append (by rw [hm, hn]; exact hfit)) _ (by rw [if_pos rfl])
theorem nsync (base l p : Nat) (q : Option Nat) (room syn ops n : Nat) (xs : List (List Nat)) (g a : Addr) (w : World) (h : Lg base w l p q (Ls room xs syn ops) n) (hS : Start w g a) (hb : base ≤ w.heap.size) (hn : takes xs = n) (ho : ops ≤ 1000000) :
    Calls Tryd.prog 14 #[.pointer (some ⟨l, 0, none⟩)] w fun e w' => e = .returned (.int .i64 0) ∧ Lg base w' l p q (Ls room xs n (ops + 1)) n ∧ Kept base (fun k => k = p) w w' := by
  have := wsync_any base l p q _ n g a w h hS hb (by simp only [Ls]; omega) (by simp [Ls])
  rw [ls_sync h.fits.2, hn] at this
  exact this
theorem nkeep (base l p : Nat) (q : Option Nat) (room syn ops n n' : Nat) (xs ys : List (List Nat)) (g a : Addr) (ao : Option Addr) (m cap : Nat) (hm : ys.length = m) (w : World) (h : Lg base w l p q (Ls room xs syn ops) n) (hS : Start w g a) (hb : base ≤ w.heap.size) (ho : ops ≤ 1000000)
    (hrow : RowsArg w ao ys) (hfit : Fit ys) (hbl : m ≤ 1000) (hn' : takes ys = n') (hr : n' ≤ room) :
    Calls Tryd.prog 16 #[.pointer (some ⟨l, 0, none⟩), .slice ao m cap] w fun e w' => ∃ q', e = .returned (.int .i64 0) ∧ Lg base w' l p q' (Ls room ys n' (ops + 1)) n' ∧ Kept base (lfoot l p q) w w' ∧ Fresh w q q' := by
  subst hn'
  exact wkeep_any base l p q _ n g a ao m cap ys hm w h hS hb (by simp only [Ls]; omega) (by simp [Ls]) hrow hfit hbl 0 _ (ls_replace hr) _ (by rw [if_pos rfl])
theorem nall (base l p : Nat) (q : Option Nat) (room syn ops n : Nat) (xs : List (List Nat)) (g a : Addr) (w : World) (h : Lg base w l p q (Ls room xs syn ops) n) (hS : Start w g a) (hx : Fit xs) (hn : takes xs = n) (hroom : room ≤ 1000000000) (k : Nat) (hk : xs.length = k) :
    Calls Tryd.prog 18 #[.pointer (some ⟨l, 0, none⟩)] w fun e w' => ∃ ao cap, e = .returned (.slice ao k cap) ∧ RowsArg w' ao xs ∧ (ao = none → cap = 0) ∧ Below w.heap.size w w' := by
  refine (wall_any base l p q _ n g a w h hS xs hx [] (by simp [Ls]) hn hroom).mono ?_
  rintro e w' ⟨fv, vs, rfl, ho, hr, hb⟩
  rw [hr.1] at ho
  obtain ⟨ao, cap, rfl, _, _, hc, hra⟩ := rows_arg ho rfl hr.vals
  exact ⟨ao, cap, by rw [hk], hra, hc, hb⟩
theorem nopen (base p : Nat) (q : Option Nat) (room syn ops n : Nat) (xs : List (List Nat)) (g a : Addr) (w : World) (h : Tp base w p q (Ls room xs syn ops)) (hS : Start w g a) (hb : base ≤ w.heap.size) (hx : Fit xs) (hn : takes xs = n) (hroom : room ≤ 1000000000) :
    Calls Tryd.prog 11 #[.pointer (some ⟨p, 0, none⟩)] w fun e w' => ∃ l, e = .returned (.tuple #[.pointer (some ⟨l, 0, none⟩), .int .i64 0]) ∧ w.heap.size ≤ l ∧ Lg base w' l p q (Ls room xs syn ops) n ∧ Below w.heap.size w w' :=
  open_whole base p q _ g a w h hS hb rfl xs hx rfl n hn hroom
/-- Open of whole records and a part of one. -/
theorem npart (base p : Nat) (q : Option Nat) (room syn ops n : Nat) (xs : List (List Nat)) (r : List Nat) (g a : Addr) (w : World) (h : Tp base w p q ⟨room, cats xs ++ r, syn, ops, 0, false⟩) (hS : Start w g a) (hb : base ≤ w.heap.size) (hx : Fit xs) (hr : frameOf r = (0, none)) (hn : takes xs = n) (hroom : room ≤ 1000000000) (ho : ops ≤ 1000000) :
    Calls Tryd.prog 11 #[.pointer (some ⟨p, 0, none⟩)] w fun e w' => ∃ q' l syn' ops', ops' ≤ ops + 1 ∧ e = .returned (.tuple #[.pointer (some ⟨l, 0, none⟩), .int .i64 0]) ∧ w.heap.size ≤ l ∧ Lg base w' l p q' (Ls room xs syn' ops') n ∧ Kept base (fun k => k = p) w w' ∧ Fresh w q q' := by
  by_cases h0 : r = []
  · subst h0
    rw [List.append_nil] at h
    refine (nopen base p q room syn ops n xs g a w h hS hb hx hn hroom).mono ?_
    rintro e w' ⟨l, rfl, h1, h2, h3⟩
    exact ⟨q, l, syn, ops, by omega, rfl, h1, h2, Kept.of_below h3 hb, Fresh.refl _ _⟩
  · have hf := h.fits.2
    simp only [List.length_append, cats_len] at hf
    have hrep : (⟨room, cats xs ++ r, syn, ops, 0, false⟩ : St).replace (cats xs) = (0, Ls room xs (takes xs) (ops + 1)) := by
      rw [replace_ok _ _ rfl (by simp only [cats_len]; omega) (by simp)]
      simp only [Ls, cats_len]
    refine (open_part base p q _ g a w h hS hb (by simp only; omega) (by simp) rfl xs hx r hr h0 rfl n hn hroom 0 _ hrep).mono ?_
    rintro e w' ⟨q', lv, rfl, hans, _, h3, h4⟩
    rcases hans with ⟨_, l, rfl, h5, h6⟩ | ⟨h5, _⟩
    · exact ⟨q', l, _, ops + 1, Nat.le_refl _, rfl, h5, h6, h3, h4⟩
    · exact absurd rfl h5
theorem crash_none (room : Nat) (xs ys : List (List Nat)) (ops : Nat) : (⟨room, cats (xs ++ ys), takes xs, ops, 0, false⟩ : St).crash 0 = Ls room xs (takes xs) ops ∧ (⟨room, cats (xs ++ ys), takes xs, ops, 0, false⟩ : St).kept 0 = 0 := by
  have e : (⟨room, cats (xs ++ ys), takes xs, ops, 0, false⟩ : St).kept 0 = 0 := by simp [St.kept]
  refine ⟨?_, e⟩
  unfold St.crash
  rw [e]
  simp only [Nat.add_zero, Ls, cats_append]
  rw [List.take_append_of_le_length (by rw [cats_len]; omega), List.take_of_length_le (by rw [cats_len]; omega)]
theorem Start.keptd {base : Nat} {f : Nat → Prop} {w w' : World} {g a : Addr} (h : Start w g a) (hk : Kept base f w w') (hz : 4 ≤ base) : Start w' g a := h.upto hk.1 hz

/-- a row of rows stays, whatever a log does. -/
theorem Lg.rows {base b b' : Nat} {w w' : World} {l p : Nat} {q : Option Nat} {s : St} {n : Nat} {v : Value} {m : Nat} {vs : List Value} (h : Lg base w l p q s n) (ho : w.ownsRow b 32 1 v m vs) (hk : Kept b' (lfoot l p q) w w') : w'.ownsRow b 32 1 v m vs := by
  refine hk.own ho fun k e hf => ?_
  obtain ⟨_, cur, fr, hc⟩ := own_tag ho k e
  obtain ⟨_, h2, u, hu, _, hp, hown, _⟩ := h
  rcases hf with rfl | rfl | hf
  · rw [h2] at hc; cases hc
  · rw [hp] at hc; cases hc
  · exact hown.ne hc (by decide) k (hu.trans hf) rfl
theorem Tp.rows {base b b' : Nat} {w w' : World} {p : Nat} {q : Option Nat} {s : St} {v : Value} {m : Nat} {vs : List Value} (h : Tp base w p q s) (ho : w.ownsRow b 32 1 v m vs) (hk : Kept b' (fun k => k = p) w w') : w'.ownsRow b 32 1 v m vs := by
  refine hk.own ho fun k e hf => ?_
  obtain ⟨_, cur, fr, hc⟩ := own_tag ho k e
  obtain ⟨u, hu, _, hp, hown, _⟩ := h
  subst hf
  rw [hp] at hc; cases hc
/-- a log stays where a row of rows grows. -/
theorem Lg.grown {base b b' : Nat} {w w' : World} {l p : Nat} {q : Option Nat} {s : St} {n : Nat} {v : Value} {m : Nat} {vs : List Value} (h : Lg base w l p q s n) (ho : w.ownsRow b 32 1 v m vs) (hk : Kept b' (fun k => v.ownBlock = some k) w w') : Lg base w' l p q s n := by
  refine h.kept hk fun k hf e => ?_
  obtain ⟨_, cur, fr, hc⟩ := own_tag ho k e
  obtain ⟨_, h2, u, hu, _, hp, hown, _⟩ := h
  rcases hf with rfl | rfl | hf
  · rw [h2] at hc; cases hc
  · rw [hp] at hc; cases hc
  · exact hown.ne hc (by decide) k (hu.trans hf) rfl

set_option maxRecDepth 20000 in
set_option maxHeartbeats 2000000 in
theorem known_any (g a : Addr) (w : World) (hS : Start w g a) : Calls Tryd.prog 9 #[] w fun ev w' => ev = .returned (.bool true) ∧ Below w.heap.size w w' := by
  have hcv := fun (w : World) (C : Array Value) (n c : Nat) => Lib.run_convert_bytes_const (P := Tryd.prog) w 32 5 C n c Tryd.underlying32 Tryd.underlying5
  have HS := hide hS
  have hz := hS.low
  clear hS
  go_enter Tryd.func9, Tryd.ntmps9
  go_wp2_with fail
  refine (new_ok 1000 w (by decide) (by decide)).mono ?_
  rintro e w1 ⟨rfl, t1, b1⟩
  have s1 := b1.size
  have S1 := hide ((unhide HS).below b1)
  have HC := hide (nopen w.heap.size w.heap.size none 1000 0 0 0 [] g a w1 t1 (unhide S1) s1 Fit.nil rfl (by decide))
  have B1 := hide b1
  clear t1 b1
  go_wp2_with fail
  refine (unhide HC).mono ?_
  rintro e w2 ⟨l, rfl, hl, l2, b2⟩
  have s2 := b2.size
  have s02 : w.heap.size ≤ w2.heap.size := Nat.le_trans s1 s2
  have c2 : Below w2.heap.size w2 (w2.alloc (.cells (u8s [97]).toArray 5 (1, 2))) := (Below.refl _ w2).alloc (Nat.le_refl _) _
  have S2 := (unhide S1).below b2
  have HC2 := hide (nappend w.heap.size l w.heap.size none 1000 0 0 0 [] g a (some ⟨w2.heap.size, 0, none⟩) 1 1 [97] rfl _ (l2.below c2) (S2.below c2) hz (Nat.le_trans s02 c2.size) rfl (by decide) (bytes_new w2 [97] (by decide) 5 (1, 2)) (fun h => by cases h) (by decide) (by decide) (by decide) (by decide))
  have B2 := hide (((unhide B1).trans (b2.mono s1)).trans (c2.mono s02))
  have SS2 := hide (S2.below c2)
  have s2a : w.heap.size ≤ (w2.alloc (.cells (u8s [97]).toArray 5 (1, 2))).heap.size := Nat.le_trans s02 c2.size
  clear b2 c2 l2 S2 HC
  go_wp2_with fail
  refine (unhide HC2).mono ?_
  rintro e w3 ⟨q3, rfl, l3, k3, _⟩
  have S3 := hide ((unhide SS2).keptd k3 hz)
  have B3 := hide ((unhide B2).trans k3.1)
  have s3 : w.heap.size ≤ w3.heap.size := Nat.le_trans s2a k3.size
  have HC3 := hide (nsync w.heap.size l w.heap.size q3 1000 0 1 9 [[97]] g a w3 l3 (unhide S3) s3 rfl (by decide))
  clear l3 k3 HC2
  go_wp2_with fail
  refine (unhide HC3).mono ?_
  rintro e w4 ⟨rfl, l4, k4⟩
  have S4 := (unhide S3).keptd k4 hz
  have s4 : w.heap.size ≤ w4.heap.size := Nat.le_trans s3 k4.size
  have c4 : Below w4.heap.size w4 (w4.alloc (.cells (u8s [98]).toArray 5 (1, 2))) := (Below.refl _ w4).alloc (Nat.le_refl _) _
  have HC4 := hide (nappend w.heap.size l w.heap.size q3 1000 9 2 9 [[97]] g a (some ⟨w4.heap.size, 0, none⟩) 1 1 [98] rfl _ (l4.below c4) (S4.below c4) hz (Nat.le_trans s4 c4.size) rfl (by decide) (bytes_new w4 [98] (by decide) 5 (1, 2)) (fun h => by cases h) (by decide) (by decide) (by decide) (by decide))
  have B4 := hide (((unhide B3).trans k4.1).trans (c4.mono s4))
  have SS4 := hide (S4.below c4)
  clear k4 c4 l4 S4 HC3
  go_wp2_with fail
  refine (unhide HC4).mono ?_
  rintro e w5 ⟨q5, rfl, l5, k5, _⟩
  have S5 := hide ((unhide SS4).keptd k5 hz)
  have B5 := hide ((unhide B4).trans k5.1)
  have HC5 := hide (crash_any w.heap.size w.heap.size q5 _ 0 w5 l5.tape)
  clear l5 k5 HC4
  go_wp2_with fail
  refine (unhide HC5).mono ?_
  have ecr := crash_none 1000 [[97]] [[98]] 3
  have ecr1 : (Ls 1000 ([[97]] ++ [[98]]) 9 (2 + 1)).crash 0 = Ls 1000 [[97]] 9 3 := ecr.1
  have ecr2 : (Ls 1000 ([[97]] ++ [[98]]) 9 (2 + 1)).kept 0 = 0 := ecr.2
  rw [ecr1, ecr2]
  rintro e w6 ⟨rfl, t6, k6⟩
  have S6 := hide ((unhide S5).keptd k6 hz)
  have B6 := hide ((unhide B5).trans k6.1)
  have s6 := (unhide B6).size
  have HC6 := hide (nopen w.heap.size w.heap.size q5 1000 9 3 9 [[97]] g a w6 t6 (unhide S6) s6 (fun x hx => by simp at hx; subst hx; exact ⟨by decide, by decide⟩) rfl (by decide))
  clear t6 k6 HC5 ecr ecr1 ecr2
  go_wp2_with fail
  refine (unhide HC6).mono ?_
  rintro e w7 ⟨l', rfl, hl', l7, b7⟩
  have HC7 := hide (nall w.heap.size l' w.heap.size q5 1000 9 3 9 [[97]] g a w7 l7 ((unhide S6).below b7) (fun x hx => by simp at hx; subst hx; exact ⟨by decide, by decide⟩) rfl (by decide) 1 rfl)
  have B7 := hide ((unhide B6).trans (b7.mono s6))
  clear l7 b7 HC6
  go_wp2_with fail
  refine (unhide HC7).mono ?_
  rintro e w8 ⟨ao8, cap8, rfl, r8, _, b8⟩
  obtain ⟨ad, r, cp, rfl, k0, y0, _, _⟩ := r8 0 (by decide)
  have cv := conv_str (n := 1) (cap := cp) y0 rfl
  have es : str ([[97]].getD 0 []) = { data := #[97] } := by decide
  rw [es] at cv
  have kk : w8.cell? ad = some (.slice r 1 cp) := by rw [show ad.add 0 = ad by simp [Addr.add]] at k0; exact k0
  have B8 := hide ((unhide B7).trans (b8.mono (unhide B7).size))
  clear r8 b8 k0 y0 HC7 es
  go_wp2
  go_ret
  exact ⟨rfl, unhide B8⟩
end Go.Proofs.YtbfepfpocgijgaaDoor
