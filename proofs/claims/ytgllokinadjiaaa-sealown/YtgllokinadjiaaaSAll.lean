/- seal: All: a contract. -/
import Derived.Test.YtgllokinadjiaaaSRead
namespace Go.Proofs.Ytgllokinadjiaaa
open Go.RowKit Go.Maps

theorem Try.infoGn : (Try.prog.info? 32).map (fun i => (i.zero, i.size, i.bytes)) = some (some (.agg #[.int .i64 0, .int .i64 0, .int .i64 0, .slice none 0 0, .slice none 0 0]), 5, 72) := by kernel_rfl
/-- a row of which k generations are laid. -/
def Laying (base : Nat) (w : World) (B : Nat) (gs : List Gn) (k : Nat) : Prop :=
  ∃ cs : Array Value, w.heap[B]? = some (.cells cs 32 (0, 0)) ∧ cs.size = gs.length * 5 ∧
    ∀ (i : Nat) (g : Gn), gs[i]? = some g → i < k → ∃ mv, (∀ (j : Nat) (u : Value), (g.cells mv)[j]? = some u → cs[i * 5 + j]? = some u) ∧ Ir base w mv g.ms ∧ g.ms.length ≤ 1000000
theorem Laying.below {base : Nat} {w w' : World} {B : Nat} {gs : List Gn} {k : Nat} (h : Laying base w B gs k) (hb : Below w.heap.size w w') : Laying base w' B gs k := by
  obtain ⟨cs, h1, h2, h3⟩ := h
  refine ⟨cs, Below.stay hb h1, h2, fun i g hi hk => ?_⟩
  obtain ⟨mv, k1, k2, k3⟩ := h3 i g hi hk
  exact ⟨mv, k1, k2.below hb, k3⟩
/-- five cells stored at a place. -/
def put5 (cs : Array Value) (o : Nat) (v0 v1 v2 v3 v4 : Value) : Array Value := ((((cs.setIfInBounds o v0).setIfInBounds (o + 1) v1).setIfInBounds (o + 2) v2).setIfInBounds (o + 3) v3).setIfInBounds (o + 4) v4
theorem put5_size (cs : Array Value) (o : Nat) (v0 v1 v2 v3 v4 : Value) : (put5 cs o v0 v1 v2 v3 v4).size = cs.size := by simp [put5]
theorem put5_other (cs : Array Value) (o : Nat) (v0 v1 v2 v3 v4 : Value) (q : Nat) (h : q < o ∨ o + 5 ≤ q) : (put5 cs o v0 v1 v2 v3 v4)[q]? = cs[q]? := by
  unfold put5
  rw [Array.getElem?_setIfInBounds_ne (by omega), Array.getElem?_setIfInBounds_ne (by omega), Array.getElem?_setIfInBounds_ne (by omega), Array.getElem?_setIfInBounds_ne (by omega), Array.getElem?_setIfInBounds_ne (by omega)]
theorem put5_at (cs : Array Value) (o : Nat) (v0 v1 v2 v3 v4 : Value) (h : o + 5 ≤ cs.size) (j : Nat) (u : Value) (hj : [v0, v1, v2, v3, v4][j]? = some u) : (put5 cs o v0 v1 v2 v3 v4)[o + j]? = some u := by
  have hj5 : j < 5 := (List.getElem?_eq_some_iff.1 hj).1
  have : j = 0 ∨ j = 1 ∨ j = 2 ∨ j = 3 ∨ j = 4 := by omega
  unfold put5
  rcases this with rfl | rfl | rfl | rfl | rfl <;> simp at hj <;> subst hj
  · simp only [Nat.add_zero]
    rw [Array.getElem?_setIfInBounds_ne (by omega), Array.getElem?_setIfInBounds_ne (by omega), Array.getElem?_setIfInBounds_ne (by omega), Array.getElem?_setIfInBounds_ne (by omega), Array.getElem?_setIfInBounds_self_of_lt (by omega)]
  · rw [Array.getElem?_setIfInBounds_ne (by omega), Array.getElem?_setIfInBounds_ne (by omega), Array.getElem?_setIfInBounds_ne (by omega), Array.getElem?_setIfInBounds_self_of_lt (by simp; omega)]
  · rw [Array.getElem?_setIfInBounds_ne (by omega), Array.getElem?_setIfInBounds_ne (by omega), Array.getElem?_setIfInBounds_self_of_lt (by simp; omega)]
  · rw [Array.getElem?_setIfInBounds_ne (by omega), Array.getElem?_setIfInBounds_self_of_lt (by simp; omega)]
  · rw [Array.getElem?_setIfInBounds_self_of_lt (by simp; omega)]
/-- one more is laid. -/
theorem Laying.put {base : Nat} {y W : World} {B : Nat} {gs : List Gn} {k : Nat} {g : Gn} {mv : Value} (h : Laying base y B gs k) (hg : gs[k]? = some g) (hm : Ir base y mv g.ms) (hml : g.ms.length ≤ 1000000)
    (hW : W = (((((y.setCell ⟨B, k * 5, none⟩ (.int .i64 g.n)).setCell ⟨B, k * 5 + 1, none⟩ (.int .i64 g.eng)).setCell ⟨B, k * 5 + 2, none⟩ (.int .i64 g.base)).setCell ⟨B, k * 5 + 3, none⟩ (.slice none 0 0)).setCell ⟨B, k * 5 + 4, none⟩ (mv))) : Laying base W B gs (k + 1) ∧ ∀ q, q ≠ B → W.heap[q]? = y.heap[q]? := by
  obtain ⟨cs, h1, h2, h3⟩ := h
  have hkn := (List.getElem?_eq_some_iff.1 hg).1
  have hh : W.heap[B]? = some (.cells (put5 cs (k * 5) (.int .i64 g.n) (.int .i64 g.eng) (.int .i64 g.base) (.slice none 0 0) mv) 32 (0, 0)) := by
    rw [hW]; exact setCell_block (setCell_block (setCell_block (setCell_block (setCell_block h1))))
  have hk : ∀ q, q ≠ B → W.heap[q]? = y.heap[q]? := fun q hq => by
    rw [hW, Below.heap_setCell _ _ _ q hq, Below.heap_setCell _ _ _ q hq, Below.heap_setCell _ _ _ q hq, Below.heap_setCell _ _ _ q hq, Below.heap_setCell _ _ _ q hq]
  refine ⟨⟨_, hh, by rw [put5_size]; exact h2, fun i g' hi hik => ?_⟩, hk⟩
  by_cases e : i = k
  · subst e
    rw [hg] at hi; cases hi
    exact ⟨mv, fun j u hj => put5_at cs (i * 5) _ _ _ _ _ (by omega) j u hj, hm.other hk h1 (by decide), hml⟩
  · obtain ⟨mv', k1, k2, k3⟩ := h3 i g' hi (by omega)
    refine ⟨mv', fun j u hj => ?_, k2.other hk h1 (by decide), k3⟩
    have hj5 : j < 5 := (List.getElem?_eq_some_iff.1 hj).1
    rw [put5_other _ _ _ _ _ _ _ _ (by omega)]; exact k1 j u hj
theorem Laying.cell {base : Nat} {w : World} {B : Nat} {gs : List Gn} {k : Nat} (h : Laying base w B gs k) {q : Nat} (hq : q < gs.length * 5) : ∃ u, w.cell? ⟨B, q, none⟩ = some u := by
  obtain ⟨cs, h1, h2, _⟩ := h
  exact ⟨cs[q], by rw [cell_of_block h1]; exact Array.getElem?_eq_getElem (by omega)⟩
theorem Laying.free {base : Nat} {w : World} {B : Nat} {gs : List Gn} {k : Nat} (h : Laying base w B gs k) (q : Nat) : w.frozen? ⟨B, q, none⟩ = false := by
  obtain ⟨cs, h1, _⟩ := h
  exact free_of_block h1
/-- the whole row. -/
theorem Laying.row {base : Nat} {w : World} {B : Nat} {gs : List Gn} (h : Laying base w B gs gs.length) (hB : base ≤ B) (hl : gs.length ≤ 1000000) :
    GRow (fun k => base ≤ k ∧ k < w.heap.size) w (.slice (some ⟨B, 0, none⟩) gs.length gs.length) gs := by
  obtain ⟨cs, h1, h2, h3⟩ := h
  refine ⟨cs.toList, ⟨by simpa using h2, Or.inr ⟨B, gs.length, cs, rfl, Nat.zero_le _, h1, Nat.le_refl _, by unfold maxLen; omega, by omega, by rw [List.take_of_length_le (by simp; omega)]⟩⟩, fun k hk => ?_, fun i g hi => ?_⟩
  · cases hk; exact ⟨hB, heap_lt h1⟩
  · obtain ⟨mv, k1, k2, k3⟩ := h3 i g hi (List.getElem?_eq_some_iff.1 hi).1
    exact ⟨mv, fun j u hj => by simpa using k1 j u hj, k2.more (Nat.zero_le _), fun k hk => k2.lt k hk, k3⟩

set_option maxRecDepth 20000 in
set_option maxHeartbeats 2000000 in
theorem all_any {D : Nat → Prop} {w : World} {p : Nat} {gs : List Gn} (h : Gs D w p gs) {n : Nat} (hn : gs.length = n) (hl : n ≤ 1000000) :
    Calls Try.prog 12 #[.pointer (some ⟨p, 0, none⟩)] w fun e w' => ∃ b, e = .returned (.slice (some ⟨b, 0, none⟩) n n) ∧ GRow (fun k => w.heap.size ≤ k ∧ k < w'.heap.size) w' (.slice (some ⟨b, 0, none⟩) n n) gs ∧ Below w.heap.size w w' := by
  obtain ⟨i0, hi, hz0, hz1, hz2⟩ := info_parts Try.infoGn
  have HH := hide h
  obtain ⟨⟨rv, hbx, hrr⟩, hDp, hlt⟩ := h
  obtain ⟨ao, ca, rfl, -, hcm, -⟩ := hrr.slice
  rw [hn] at hbx hrr
  have pc : w.cell? ⟨p, 0, none⟩ = some (.slice ao n ca) := (cell_of_block hbx).trans rfl
  have PX := hide hbx
  have HR := hide hrr
  have HN := hide hn
  clear hbx hrr hDp hlt hn
  go_enter Try.func12, Try.ntmps12
  go_wp2_with (at_make; refine wpList_make_full _ rfl _ _ 36 rfl w.heap.size 32 i0 (.agg #[.int .i64 0, .int .i64 0, .int .i64 0, .slice none 0 0, .slice none 0 0]) 5 Try.underlying36 hi hz0 hz1 .i64 .i64 _ _ n rfl rfl rfl rfl (by rw [hz2]; omega) (by unfold maxLen; omega) (Nat.le_refl _) ?_)
  intro w1 hown1 hgrow1
  have b1 : Below w.heap.size w w1 := (Below.refl _ _).grown hgrow1 (Nat.le_refl _) (fun k hk => by cases hk)
  have y1 : Laying w.heap.size w1 w.heap.size gs 0 := by
    rcases hown1.2 with ⟨h, _⟩ | ⟨g, cap, cur, hv, _, hh, _, _, hc, _⟩
    · cases h
    · cases hv
      exact ⟨cur, hh, by rw [unhide HN]; exact hc, fun i g _ hk => absurd hk (Nat.not_lt_zero _)⟩
  have c1 : w1.cell? ⟨p, 0, none⟩ = some (.slice ao n ca) := (b1.cell (blk_lt pc)).trans pc
  have Y1 := hide y1
  have B1 := hide b1
  clear y1 b1 hown1 hgrow1 pc
  go_wp2
  go_loopw [17, 4, 5] (fun i _ _ wr => ∃ k : Nat, k ≤ n ∧ i = .int .i64 k ∧ Laying w.heap.size wr w.heap.size gs k ∧ Below w.heap.size w wr) (fun i _ _ _ => n - (intOf i).toNat)
  case atStart => exact ⟨0, Nat.zero_le _, rfl, unhide Y1, unhide B1⟩
  case round =>
    obtain ⟨k, hk, rfl, hy, hb⟩ := hrel
    by_cases hlt : k < n
    · obtain ⟨g, hg⟩ : ∃ g, gs[k]? = some g := ⟨_, List.getElem?_eq_getElem (by rw [unhide HN]; exact hlt)⟩
      obtain ⟨b, mo, mc, rfl, hDb, c0, c1', c2, c3, c4, o4, d4, l4⟩ := ((unhide HR).below hb).at hg
      obtain ⟨ao', ca', e, hfr, -⟩ := o4.slice
      cases e
      obtain ⟨W, hW⟩ : ∃ W, wr.alloc (.cells #[.int .i64 g.n, .int .i64 g.eng, .int .i64 g.base, .slice none 0 0, .slice mo g.ms.length mc] 32) = W := ⟨_, rfl⟩
      have bW : Below wr.heap.size wr W := by rw [← hW]; exact (Below.refl _ wr).alloc (Nat.le_refl _) _
      have xW : W.heap[wr.heap.size]? = some (.cells #[.int .i64 g.n, .int .i64 g.eng, .int .i64 g.base, .slice none 0 0, .slice mo g.ms.length mc] 32 (0, 0)) := by rw [← hW]; exact box_at _ _
      have CT := hide (setwin_any g none 0 0 mo g.ms.length mc rfl l4 W (hfr.1.below bW))
      have k0 : W.cell? ⟨wr.heap.size, 0, none⟩ = some (.int .i64 g.n) := (cell_of_block xW).trans rfl
      have k1 : W.cell? ⟨wr.heap.size, 1, none⟩ = some (.int .i64 g.eng) := (cell_of_block xW).trans rfl
      have k2 : W.cell? ⟨wr.heap.size, 2, none⟩ = some (.int .i64 g.base) := (cell_of_block xW).trans rfl
      have k3 : W.cell? ⟨wr.heap.size, 3, none⟩ = some (.slice none 0 0) := (cell_of_block xW).trans rfl
      have k4 : W.cell? ⟨wr.heap.size, 4, none⟩ = some (.slice mo g.ms.length mc) := (cell_of_block xW).trans rfl
      have q1 : (k : Int) < (n : Int) := by omega
      have HY := hide hy
      have HBW := hide (And.intro hb bW)
      have HG := hide (And.intro hg l4)
      have HW := hide hW
      clear hy hb hW xW bW hg o4 d4 l4 hfr hDb
      go_upto_region 5 with fail
      rw [unhide HW]
      go_wp2_with fail
      refine (unhide CT).mono ?_
      rintro e w2 ⟨c, rfl, o2, b2⟩
      have b3 := below_far (unhide HBW).2 b2
      have y2 := (unhide HY).below b3
      have hkl : k < gs.length := by rw [unhide HN]; exact hlt
      obtain ⟨u0, t0⟩ := y2.cell (q := k * 5) (by omega)
      obtain ⟨u1, t1⟩ := y2.cell (q := k * 5 + 1) (by omega)
      obtain ⟨u2, t2⟩ := y2.cell (q := k * 5 + 2) (by omega)
      obtain ⟨u3, t3⟩ := y2.cell (q := k * 5 + 3) (by omega)
      obtain ⟨u4, t4⟩ := y2.cell (q := k * 5 + 4) (by omega)
      have fz : ∀ q, w2.frozen? ⟨w.heap.size, q, none⟩ = false := fun q => y2.free q
      have Y2 := hide y2
      have O2 := hide (o2.more (Nat.le_trans (unhide HBW).1.size (unhide HBW).2.size))
      have B2 := hide ((unhide HBW).1.trans (b3.mono (unhide HBW).1.size))
      clear b2 b3 y2 o2 CT k0 k1 k2 k3 k4 c0 c1' c2 c3 c4 c1
      go_wp2
      go_roundw
      case rel =>
        obtain ⟨U, hU⟩ : ∃ U : World, U = (((((w2.setCell ⟨w.heap.size, k * 5, none⟩ (.int .i64 g.n)).setCell ⟨w.heap.size, k * 5 + 1, none⟩ (.int .i64 g.eng)).setCell ⟨w.heap.size, k * 5 + 2, none⟩ (.int .i64 g.base)).setCell ⟨w.heap.size, k * 5 + 3, none⟩ (.slice none 0 0)).setCell ⟨w.heap.size, k * 5 + 4, none⟩ (.slice (some ⟨c, 0, none⟩) g.ms.length g.ms.length)) := ⟨_, rfl⟩
        obtain ⟨yU, kU⟩ := (unhide Y2).put (unhide HG).1 (unhide O2) (unhide HG).2 hU
        refine ⟨k + 1, by omega, by go_num, ?_, ?_⟩
        · rw [← hU]; exact yU
        · rw [← hU, hU]
          exact (((((unhide B2).setCell (p := ⟨w.heap.size, k * 5, none⟩) (Nat.le_refl _) _).setCell (p := ⟨w.heap.size, k * 5 + 1, none⟩) (Nat.le_refl _) _).setCell (p := ⟨w.heap.size, k * 5 + 2, none⟩) (Nat.le_refl _) _).setCell (p := ⟨w.heap.size, k * 5 + 3, none⟩) (Nat.le_refl _) _).setCell (p := ⟨w.heap.size, k * 5 + 4, none⟩) (Nat.le_refl _) _
      case measure => simp [intOf]; omega
    · obtain rfl : k = n := by omega
      have HY := hide hy
      have HBW := hide hb
      clear hy hb
      go_wp2
      go_ret
      have hy := unhide HY
      rw [← unhide HN] at hy
      have hr := hy.row (Nat.le_refl _) (by rw [unhide HN]; exact hl)
      rw [unhide HN] at hr
      exact ⟨_, rfl, hr, unhide HBW⟩
end Go.Proofs.Ytgllokinadjiaaa
