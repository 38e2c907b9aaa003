/- client: All: a contract. -/
import Derived.Test.YtkalpdfigdaalaaUPush
import Derived.Test.YtkalpdfigdaalaaUEsR
namespace Go.Proofs.Ytkalpdfigdaalaa
open Go.RowKit Go.Maps

/-- a row of which k entries are laid. -/
def Laying (base : Nat) (w : World) (B : Nat) (gs : List En) (k : Nat) : Prop :=
  ∃ cs : Array Value, w.heap[B]? = some (.cells cs 31 (0, 0)) ∧ cs.size = gs.length * 6 ∧
    ∀ (i : Nat) (g : En), gs[i]? = some g → i < k → ∃ mv, (∀ (j : Nat) (u : Value), (g.cells mv)[j]? = some u → cs[i * 6 + j]? = some u) ∧ Ir base w mv g.ms ∧ g.ms.length ≤ 1000000
theorem Laying.below {base : Nat} {w w' : World} {B : Nat} {gs : List En} {k : Nat} (h : Laying base w B gs k) (hb : Below w.heap.size w w') : Laying base w' B gs k := by
  obtain ⟨cs, h1, h2, h3⟩ := h
  refine ⟨cs, Below.stay hb h1, h2, fun i g hi hk => ?_⟩
  obtain ⟨mv, k1, k2, k3⟩ := h3 i g hi hk
  exact ⟨mv, k1, k2.below hb, k3⟩
/-- six cells stored at a place. -/
def put6 (cs : Array Value) (o : Nat) (v0 v1 v2 v3 v4 v5 : Value) : Array Value := (((((cs.setIfInBounds o v0).setIfInBounds (o + 1) v1).setIfInBounds (o + 2) v2).setIfInBounds (o + 3) v3).setIfInBounds (o + 4) v4).setIfInBounds (o + 5) v5
theorem put6_size (cs : Array Value) (o : Nat) (v0 v1 v2 v3 v4 v5 : Value) : (put6 cs o v0 v1 v2 v3 v4 v5).size = cs.size := by simp [put6]
theorem put6_other (cs : Array Value) (o : Nat) (v0 v1 v2 v3 v4 v5 : Value) (q : Nat) (h : q < o ∨ o + 6 ≤ q) : (put6 cs o v0 v1 v2 v3 v4 v5)[q]? = cs[q]? := by
  unfold put6
  rw [Array.getElem?_setIfInBounds_ne (by omega), Array.getElem?_setIfInBounds_ne (by omega), Array.getElem?_setIfInBounds_ne (by omega), Array.getElem?_setIfInBounds_ne (by omega), Array.getElem?_setIfInBounds_ne (by omega), Array.getElem?_setIfInBounds_ne (by omega)]
theorem put6_at (cs : Array Value) (o : Nat) (v0 v1 v2 v3 v4 v5 : Value) (h : o + 6 ≤ cs.size) (j : Nat) (u : Value) (hj : [v0, v1, v2, v3, v4, v5][j]? = some u) : (put6 cs o v0 v1 v2 v3 v4 v5)[o + j]? = some u := by
  have hj6 : j < 6 := (List.getElem?_eq_some_iff.1 hj).1
  have : j = 0 ∨ j = 1 ∨ j = 2 ∨ j = 3 ∨ j = 4 ∨ j = 5 := by omega
  unfold put6
  rcases this with rfl | rfl | rfl | rfl | rfl | rfl <;> simp at hj <;> subst hj
  · simp only [Nat.add_zero]
    rw [Array.getElem?_setIfInBounds_ne (by omega), Array.getElem?_setIfInBounds_ne (by omega), Array.getElem?_setIfInBounds_ne (by omega), Array.getElem?_setIfInBounds_ne (by omega), Array.getElem?_setIfInBounds_ne (by omega), Array.getElem?_setIfInBounds_self_of_lt (by omega)]
  · rw [Array.getElem?_setIfInBounds_ne (by omega), Array.getElem?_setIfInBounds_ne (by omega), Array.getElem?_setIfInBounds_ne (by omega), Array.getElem?_setIfInBounds_ne (by omega), Array.getElem?_setIfInBounds_self_of_lt (by simp; omega)]
  · rw [Array.getElem?_setIfInBounds_ne (by omega), Array.getElem?_setIfInBounds_ne (by omega), Array.getElem?_setIfInBounds_ne (by omega), Array.getElem?_setIfInBounds_self_of_lt (by simp; omega)]
  · rw [Array.getElem?_setIfInBounds_ne (by omega), Array.getElem?_setIfInBounds_ne (by omega), Array.getElem?_setIfInBounds_self_of_lt (by simp; omega)]
  · rw [Array.getElem?_setIfInBounds_ne (by omega), Array.getElem?_setIfInBounds_self_of_lt (by simp; omega)]
  · rw [Array.getElem?_setIfInBounds_self_of_lt (by simp; omega)]
/-- one more is laid. -/
theorem Laying.put {base : Nat} {y W : World} {B : Nat} {gs : List En} {k : Nat} {g : En} {mv : Value} (h : Laying base y B gs k) (hg : gs[k]? = some g) (hm : Ir base y mv g.ms) (hml : g.ms.length ≤ 1000000)
    (hW : W = ((((((y.setCell ⟨B, k * 6, none⟩ (.int .i64 g.kind)).setCell ⟨B, k * 6 + 1, none⟩ (.int .i64 g.client)).setCell ⟨B, k * 6 + 2, none⟩ (.int .i64 g.seq)).setCell ⟨B, k * 6 + 3, none⟩ (.string g.text)).setCell ⟨B, k * 6 + 4, none⟩ mv).setCell ⟨B, k * 6 + 5, none⟩ (.int .i64 g.dest))) : Laying base W B gs (k + 1) ∧ ∀ q, q ≠ B → W.heap[q]? = y.heap[q]? := by
  obtain ⟨cs, h1, h2, h3⟩ := h
  have hkn := (List.getElem?_eq_some_iff.1 hg).1
  have hh : W.heap[B]? = some (.cells (put6 cs (k * 6) (.int .i64 g.kind) (.int .i64 g.client) (.int .i64 g.seq) (.string g.text) mv (.int .i64 g.dest)) 31 (0, 0)) := by
    rw [hW]; exact setCell_block (setCell_block (setCell_block (setCell_block (setCell_block (setCell_block h1)))))
  have hk : ∀ q, q ≠ B → W.heap[q]? = y.heap[q]? := fun q hq => by
    rw [hW, Below.heap_setCell _ _ _ q hq, Below.heap_setCell _ _ _ q hq, Below.heap_setCell _ _ _ q hq, Below.heap_setCell _ _ _ q hq, Below.heap_setCell _ _ _ q hq, Below.heap_setCell _ _ _ q hq]
  refine ⟨⟨_, hh, by rw [put6_size]; exact h2, fun i g' hi hik => ?_⟩, hk⟩
  by_cases e : i = k
  · subst e
    rw [hg] at hi; cases hi
    exact ⟨mv, fun j u hj => put6_at cs (i * 6) _ _ _ _ _ _ (by omega) j u hj, hm.other hk h1 (by decide), hml⟩
  · obtain ⟨mv', k1, k2, k3⟩ := h3 i g' hi (by omega)
    refine ⟨mv', fun j u hj => ?_, k2.other hk h1 (by decide), k3⟩
    have hj5 : j < 6 := (List.getElem?_eq_some_iff.1 hj).1
    rw [put6_other _ _ _ _ _ _ _ _ _ (by omega)]; exact k1 j u hj
theorem Laying.cell {base : Nat} {w : World} {B : Nat} {gs : List En} {k : Nat} (h : Laying base w B gs k) {q : Nat} (hq : q < gs.length * 6) : ∃ u, w.cell? ⟨B, q, none⟩ = some u := by
  obtain ⟨cs, h1, h2, _⟩ := h
  exact ⟨cs[q], by rw [cell_of_block h1]; exact Array.getElem?_eq_getElem (by omega)⟩
theorem Laying.free {base : Nat} {w : World} {B : Nat} {gs : List En} {k : Nat} (h : Laying base w B gs k) (q : Nat) : w.frozen? ⟨B, q, none⟩ = false := by
  obtain ⟨cs, h1, _⟩ := h
  exact free_of_block h1
/-- the whole row. -/
theorem Laying.row {base : Nat} {w : World} {B : Nat} {gs : List En} (h : Laying base w B gs gs.length) (hB : base ≤ B) (hl : gs.length ≤ 1000000) :
    ERow (fun k => base ≤ k ∧ k < w.heap.size) w (.slice (some ⟨B, 0, none⟩) gs.length gs.length) gs := by
  obtain ⟨cs, h1, h2, h3⟩ := h
  refine ⟨cs.toList, ⟨by simpa using h2, Or.inr ⟨B, gs.length, cs, rfl, Nat.zero_le _, h1, Nat.le_refl _, by unfold maxLen; omega, by omega, by rw [List.take_of_length_le (by simp; omega)]⟩⟩, fun k hk => ?_, fun i g hi => ?_⟩
  · cases hk; exact ⟨hB, heap_lt h1⟩
  · obtain ⟨mv, k1, k2, k3⟩ := h3 i g hi (List.getElem?_eq_some_iff.1 hi).1
    exact ⟨mv, fun j u hj => by simpa using k1 j u hj, k2.more (Nat.zero_le _), fun k hk => k2.lt k hk, k3⟩

set_option maxRecDepth 20000 in
set_option maxHeartbeats 2000000 in
theorem all_any {D : Nat → Prop} {w : World} {p q : Nat} {es : List En} (h : Tb D w p q es) {n : Nat} (hn : es.length = n) (hl : n ≤ 1000000) :
    Calls Try.prog 16 #[.pointer (some ⟨p, 0, none⟩)] w fun e w' => ∃ b, e = .returned (.slice (some ⟨b, 0, none⟩) n n) ∧ ERow (fun k => w.heap.size ≤ k ∧ k < w'.heap.size) w' (.slice (some ⟨b, 0, none⟩) n n) es ∧ Below w.heap.size w w' := by
  obtain ⟨i0, hi, hz0, hz1, hz2⟩ := info_parts Try.infoEn
  obtain ⟨⟨A, F, rv, hbx, hrr, -⟩, -, -⟩ := h
  obtain ⟨ao, ca, rfl, -, hcm, -⟩ := hrr.slice
  rw [hn] at hbx hrr
  have pc : w.cell? ⟨p, 0, none⟩ = some (.slice ao n ca) := (cell_of_block hbx).trans rfl
  have HR := hide hrr
  have HN := hide hn
  clear hbx hrr hn
  go_enter Try.func16, Try.ntmps16
  go_wp2_with (at_make; refine wpList_make_full _ rfl _ _ 22 rfl w.heap.size 31 i0 (.agg #[.int .i64 0, .int .i64 0, .int .i64 0, .string ⟨#[]⟩, .slice none 0 0, .int .i64 0]) 6 Try.underlying22 hi hz0 hz1 .i64 .i64 _ _ n rfl rfl rfl rfl (by rw [hz2]; omega) (by unfold maxLen; omega) (Nat.le_refl _) ?_)
  intro w1 hown1 hgrow1
  have b1 : Below w.heap.size w w1 := (Below.refl _ _).grown hgrow1 (Nat.le_refl _) (fun k hk => by cases hk)
  have y1 : Laying w.heap.size w1 w.heap.size es 0 := by
    rcases hown1.2 with ⟨h, _⟩ | ⟨g, cap, cur, hv, _, hh, _, _, hc, _⟩
    · cases h
    · cases hv
      exact ⟨cur, hh, by rw [unhide HN]; exact hc, fun i g _ hk => absurd hk (Nat.not_lt_zero _)⟩
  have c1 : w1.cell? ⟨p, 0, none⟩ = some (.slice ao n ca) := (b1.cell (blk_lt pc)).trans pc
  have Y1 := hide y1
  have B1 := hide b1
  clear y1 b1 hown1 hgrow1 pc
  go_wp2
  go_loopw [17, 4, 5] (fun i _ _ wr => ∃ k : Nat, k ≤ n ∧ i = .int .i64 k ∧ Laying w.heap.size wr w.heap.size es k ∧ Below w.heap.size w wr) (fun i _ _ _ => n - (intOf i).toNat)
  case atStart => exact ⟨0, Nat.zero_le _, rfl, unhide Y1, unhide B1⟩
  case round =>
    obtain ⟨k, hk, rfl, hy, hb⟩ := hrel
    by_cases hlt : k < n
    · obtain ⟨g, hg⟩ : ∃ g, es[k]? = some g := ⟨_, List.getElem?_eq_getElem (by rw [unhide HN]; exact hlt)⟩
      obtain ⟨b, mo, mc, rfl, hDb, c0, c1', c2, c3, c4, c5, o4, d4, l4⟩ := ((unhide HR).below hb).at hg
      obtain ⟨ao', ca', e, hfr, -⟩ := o4.slice
      cases e
      obtain ⟨W, hW⟩ : ∃ W, wr.alloc (.cells #[.int .i64 g.kind, .int .i64 g.client, .int .i64 g.seq, .string g.text, .slice mo g.ms.length mc, .int .i64 g.dest] 31) = W := ⟨_, rfl⟩
      have bW : Below wr.heap.size wr W := by rw [← hW]; exact (Below.refl _ wr).alloc (Nat.le_refl _) _
      have xW : W.heap[wr.heap.size]? = some (.cells #[.int .i64 g.kind, .int .i64 g.client, .int .i64 g.seq, .string g.text, .slice mo g.ms.length mc, .int .i64 g.dest] 31 (0, 0)) := by rw [← hW]; exact box_at _ _
      have CT := hide (twin_any g mo g.ms.length mc rfl W (hfr.1.below bW) l4)
      have k0 : W.cell? ⟨wr.heap.size, 0, none⟩ = some (.int .i64 g.kind) := (cell_of_block xW).trans rfl
      have k1 : W.cell? ⟨wr.heap.size, 1, none⟩ = some (.int .i64 g.client) := (cell_of_block xW).trans rfl
      have k2 : W.cell? ⟨wr.heap.size, 2, none⟩ = some (.int .i64 g.seq) := (cell_of_block xW).trans rfl
      have k3 : W.cell? ⟨wr.heap.size, 3, none⟩ = some (.string g.text) := (cell_of_block xW).trans rfl
      have k4 : W.cell? ⟨wr.heap.size, 4, none⟩ = some (.slice mo g.ms.length mc) := (cell_of_block xW).trans rfl
      have k5 : W.cell? ⟨wr.heap.size, 5, none⟩ = some (.int .i64 g.dest) := (cell_of_block xW).trans rfl
      have q1 : (k : Int) < (n : Int) := by omega
      have HY := hide hy
      have HBW := hide (And.intro hb bW)
      have HG := hide (And.intro hg l4)
      have HW := hide hW
      clear hy hb hW xW bW hg o4 d4 l4 hfr hDb
      go_upto_region 5 with fail
      rw [unhide HW]
      go_wp2_with fail
      refine (unhide CT).mono ?_
      rintro e w2 ⟨mo2, mc2, rfl, o2, b2⟩
      have b3 := below_far (unhide HBW).2 b2
      have y2 := (unhide HY).below b3
      have hkl : k < es.length := by rw [unhide HN]; exact hlt
      obtain ⟨u0, t0⟩ := y2.cell (q := k * 6) (by omega)
      obtain ⟨u1, t1⟩ := y2.cell (q := k * 6 + 1) (by omega)
      obtain ⟨u2, t2⟩ := y2.cell (q := k * 6 + 2) (by omega)
      obtain ⟨u3, t3⟩ := y2.cell (q := k * 6 + 3) (by omega)
      obtain ⟨u4, t4⟩ := y2.cell (q := k * 6 + 4) (by omega)
      obtain ⟨u5, t5⟩ := y2.cell (q := k * 6 + 5) (by omega)
      have fz : ∀ q, w2.frozen? ⟨w.heap.size, q, none⟩ = false := fun q => y2.free q
      have Y2 := hide y2
      have O2 := hide (o2.more (Nat.le_trans (unhide HBW).1.size (unhide HBW).2.size))
      have B2 := hide ((unhide HBW).1.trans (b3.mono (unhide HBW).1.size))
      clear b2 b3 y2 o2 CT k0 k1 k2 k3 k4 k5 c0 c1' c2 c3 c4 c5 c1
      go_wp2
      go_roundw
      case rel =>
        obtain ⟨U, hU⟩ : ∃ U : World, U = ((((((w2.setCell ⟨w.heap.size, k * 6, none⟩ (.int .i64 g.kind)).setCell ⟨w.heap.size, k * 6 + 1, none⟩ (.int .i64 g.client)).setCell ⟨w.heap.size, k * 6 + 2, none⟩ (.int .i64 g.seq)).setCell ⟨w.heap.size, k * 6 + 3, none⟩ (.string g.text)).setCell ⟨w.heap.size, k * 6 + 4, none⟩ (.slice mo2 g.ms.length mc2)).setCell ⟨w.heap.size, k * 6 + 5, none⟩ (.int .i64 g.dest)) := ⟨_, rfl⟩
        obtain ⟨yU, kU⟩ := (unhide Y2).put (unhide HG).1 (unhide O2) (unhide HG).2 hU
        refine ⟨k + 1, by omega, by go_num, ?_, ?_⟩
        · rw [← hU]; exact yU
        · rw [← hU, hU]
          exact ((((((unhide B2).setCell (p := ⟨w.heap.size, k * 6, none⟩) (Nat.le_refl _) _).setCell (p := ⟨w.heap.size, k * 6 + 1, none⟩) (Nat.le_refl _) _).setCell (p := ⟨w.heap.size, k * 6 + 2, none⟩) (Nat.le_refl _) _).setCell (p := ⟨w.heap.size, k * 6 + 3, none⟩) (Nat.le_refl _) _).setCell (p := ⟨w.heap.size, k * 6 + 4, none⟩) (Nat.le_refl _) _).setCell (p := ⟨w.heap.size, k * 6 + 5, none⟩) (Nat.le_refl _) _
      case measure => simp [intOf]; omega
    · obtain rfl : k = n := by omega
      have HY := hide hy
      have HBW := hide hb
      clear hy hb
      go_wp2
      go_ret
      have hy := unhide HY
      rw [← unhide HN] at hy
      have hr := hy.row (Nat.le_refl _) (by rw [unhide HN]; exact hl)
      rw [unhide HN] at hr
      exact ⟨_, rfl, hr, unhide HBW⟩
end Go.Proofs.Ytkalpdfigdaalaa
