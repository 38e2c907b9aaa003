/- The document's own log: Append: a contract. The document's own log: Append: a contract. Rows laid behind rows, at a step of a region: numbers, entries. -/
import Derived.Test.YtmgdkbpbmngibaaHXRef
import Derived.Test.YtmgdkbpbmngibaaHApp
import Derived.Deep.RegionLaw
namespace Go.Proofs.Ytmgdkbpbmngibaa
open Go.RowKit Go.Maps

theorem XRow.keep {base : Nat} {w w' : World} {v : Value} {es : List En} (h : XRow base w v es) (hk : ∀ k, v.ownBlock = some k → w'.heap[k]? = w.heap[k]?) (hb : Below base w w') : XRow base w' v es := by
  obtain ⟨xs, h1, h2⟩ := h
  refine ⟨xs, own_kept h1 hk, fun i e hi => ?_⟩
  obtain ⟨mo, cap, k1, k2, k3⟩ := h2 i e hi
  refine ⟨mo, cap, k1, fun j hj => ?_, k3⟩
  obtain ⟨a, a1, a2, a3⟩ := k2 j hj
  exact ⟨a, a1, a2, by rw [hb.cell (by rw [add_block]; exact a2)]; exact a3⟩
theorem XRow.tag {base : Nat} {w : World} {v : Value} {es : List En} (h : XRow base w v es) : ∀ k, v.ownBlock = some k → base ≤ k ∧ k < w.heap.size ∧ ∃ cur fr, w.heap[k]? = some (.cells cur 60 fr) := fun k hk => by
  obtain ⟨xs, h1, _⟩ := h
  exact ⟨(h1.lt k hk).1, (h1.lt k hk).2, (own_tag h1 k hk).2⟩
/-- entries to be laid into the document's log: their members lie in memory that came in. -/
def XEs (F : Nat → Prop) (base : Nat) (w : World) (ao : Option Addr) (es : List En) : Prop :=
  ∀ (i : Nat) (e : En), es[i]? = some e → ∃ g off mo cap, ao = some ⟨g, off, none⟩ ∧ F g ∧ (∀ (j : Nat) (u : Value), (e.cells (.slice mo e.ms.length cap))[j]? = some u → w.cell? ⟨g, off + i * 6 + j, none⟩ = some u) ∧ InF (fun k => k < base) w mo e.ms ∧ e.ms.length ≤ 1000000
theorem XEs.kp {F D : Nat → Prop} {base : Nat} {w w' : World} {ao : Option Addr} {es : List En} (h : XEs F base w ao es) (hk : Kp D w w') (hd : ∀ k, F k → ¬ D k) (hb : ∀ k, D k → base ≤ k) : XEs F base w' ao es := fun i e hi => by
  obtain ⟨g, off, mo, cap, h1, h2, h3, h4, h5⟩ := h i e hi
  exact ⟨g, off, mo, cap, h1, h2, fun j u hj => hk.cell (h3 j u hj) (hd _ h2), h4.kp hk (fun k hk' x => by have := hb k x; omega), h5⟩
theorem EsR.xes {base : Nat} {w : World} {ao : Option Addr} {es : List En} (h : EsR (fun k => k < base) w ao es) : XEs (fun k => k < base) base w ao es := h
theorem xes_lit (base : Nat) (w : World) (es : List En) (hm : ∀ e ∈ es, e.ms = []) (cs : Array Value) (hc : cs.toList = es.flatMap fun e => e.cells (.slice none 0 0)) (flat : ∀ (i : Nat) (e : En) (j : Nat) (u : Value), es[i]? = some e → (e.cells (.slice none 0 0))[j]? = some u → (es.flatMap fun e => e.cells (.slice none 0 0))[i * 6 + j]? = some u) : XEs (fun k => k = w.heap.size) base (w.alloc (.cells cs 60)) (some ⟨w.heap.size, 0, none⟩) es := fun i e hi => by
  have h0 := hm e (List.mem_of_getElem? hi)
  refine ⟨w.heap.size, 0, none, 0, rfl, rfl, fun j u hj => ?_, by rw [h0]; exact InF.nil _ _ _, by rw [h0]; simp⟩
  rw [h0] at hj
  rw [cell_of_block (box_at w _), ← Array.getElem?_toList, hc, Nat.zero_add]
  exact flat i e j u hi hj
/-- one entry more. -/
theorem run_pushX {base : Nat} {w : World} {v : Value} {es : List En} (h : XRow base w v es) (ty : TypeId) (nb : Nat) (e : En) (mo : Option Addr) (mc : Nat) (hx : w.heap[nb]? = some (.cells (e.cells (.slice mo e.ms.length mc)).toArray 60 (0, 0))) (hm : InF (fun k => k < base) w mo e.ms) (hml : e.ms.length ≤ 1000000) (hl : es.length ≤ 1000000) (hb : base ≤ w.heap.size) :
    ∃ v' w', (Builtin.append_ #[30, 30] ty #[v, .slice (some ⟨nb, 0, none⟩) 1 1]).run Try.prog w = .ok v' w' ∧ XRow base w' v' (es ++ [e]) ∧ w.grownBy w' v.ownBlock ∧ (v'.ownBlock = v.ownBlock ∨ v'.ownBlock = some w.heap.size) := by
  obtain ⟨i0, hi, hz0, hz1, hz2⟩ := info_parts Try.infoEn
  obtain ⟨xs, h1, h3⟩ := h
  obtain ⟨v', w', hr, o', g', _, hat⟩ := run_append_own_at (P := Try.prog) w base 30 ty 60 i0 _ 6 72 Try.underlying30 hi hz0 hz1 hz2 rfl (by decide) v es.length xs h1 ⟨nb, 0, none⟩ 1 1 (e.cells (.slice mo e.ms.length mc)) rfl
    (fun j u hj => by rw [Addr.add_lit, Nat.zero_add, cell_of_block hx]; simpa using hj) (En.cells_one e rfl) (by unfold maxLen; omega) (by omega) hb
  have bb : Below base w w' := (Below.refl _ _).grown g' hb (fun k hk => (h1.lt k hk).1)
  have keep : ∀ (u : Option Addr) (ys : List Int), InF (fun k => k < base) w u ys → InF (fun k => k < base) w' u ys := fun u ys hu j hj => by
    obtain ⟨a, a1, a2, a3⟩ := hu j hj
    exact ⟨a, a1, a2, by rw [bb.cell (by rw [add_block]; exact a2)]; exact a3⟩
  refine ⟨v', w', hr, ⟨_, by rw [List.length_append]; exact o', fun i q hq => ?_⟩, g', hat⟩
  have hxl : xs.length = es.length * 6 := h1.1
  by_cases he : i < es.length
  · rw [List.getElem?_append_left he] at hq
    obtain ⟨u, c, u1, u2, u4⟩ := h3 i q hq
    refine ⟨u, c, fun j z hj => ?_, keep u _ u2, u4⟩
    have hj6 : j < 6 := (List.getElem?_eq_some_iff.1 hj).1
    rw [List.getElem?_append_left (by omega)]; exact u1 j z hj
  · rw [List.getElem?_append_right (by omega)] at hq
    have hi0 : i = es.length := by have := (List.getElem?_eq_some_iff.1 hq).1; simp at this; omega
    subst hi0
    simp at hq
    subst hq
    refine ⟨mo, mc, fun j c hj => ?_, keep mo _ hm, hml⟩
    rw [List.getElem?_append_right (by omega), show es.length * 6 + j - xs.length = j by omega]; exact hj
theorem wp_pushX {w : World} {o : Oper} {a : Act} {K : Act → World → Prop} {Q : Exit → Act → World → Prop} (s x : Operand)
    (ho : o.op = .call { callee := .builtin .append, args := #[s, x], argTypes := #[30, 30] }) (base : Nat) (v : Value) (es : List En) (hs : a.eval s = v) (h : XRow base w v es)
    (nb : Nat) (e : En) (mo : Option Addr) (mc : Nat) (hx : a.eval x = .slice (some ⟨nb, 0, none⟩) 1 1) (hc : w.heap[nb]? = some (.cells (e.cells (.slice mo e.ms.length mc)).toArray 60 (0, 0))) (hm : InF (fun k => k < base) w mo e.ms) (hml : e.ms.length ≤ 1000000) (hl : es.length ≤ 1000000) (hb : base ≤ w.heap.size)
    (hk : ∀ v' w', XRow base w' v' (es ++ [e]) → w.grownBy w' v.ownBlock → (v'.ownBlock = v.ownBlock ∨ v'.ownBlock = some w.heap.size) → K (a.put o.dst v') w') : Oper.wp Try.prog o a w K Q := by
  obtain ⟨v', w', hr, h1, h2, h3⟩ := run_pushX h o.type nb e mo mc hc hm hml hl hb
  unfold Oper.wp execOp
  simp only [ho, resolve, invoke, builtin, Sem.run_bind, Sem.run_pure, Result.andThen_ok, List.map_toArray, List.map_cons, List.map_nil, hs, hx, hr]
  exact hk v' w' h1 h2 h3
theorem step_appE {w : World} {ops : Array Oper} {o : Oper} {a : Act} {K : Act → World → Prop} {Q : Exit → Act → World → Prop} {E : Prop} (s x : Operand) (_ho : o.op = .call { callee := .builtin .append, args := #[s, x], argTypes := #[30, 30] }) (hg : o.guard = none) (h : Oper.wp Try.prog o a w K Q) :
    if Region.wanted o (yielded ops a.tmps) = true then Oper.wp Try.prog o a w K Q else E := step_on hg h
end Go.Proofs.Ytmgdkbpbmngibaa
namespace Go.Proofs.Ytmgdkbpbmngibaa
open Go.RowKit Go.Maps

theorem Xs.more {base : Nat} {D : Nat → Prop} {w w' : World} {p : Nat} {b : Int} {rs : List Rw} (h : Xs base D w' p b rs) (hb : base ≤ w.heap.size) : Xs base (News D w w') w' p b rs := by
  obtain ⟨⟨tv, ev, h1, h2, h3, h4, h5⟩, h6, h7, h8⟩ := h
  exact ⟨⟨tv, ev, h1, h2, h3, fun k e => Or.inl (h4 k e), fun k e => Or.inl (h5 k e)⟩, Or.inl h6, fun k x => x.elim (h7 k) (fun y => y.2), fun k x => x.elim (h8 k) (fun y => Nat.le_trans hb y.1)⟩

theorem x_fin {base : Nat} {D : Nat → Prop} {w Z2 z3 : World} {p : Nat} {b : Int} {tv ev ev3 : Value} {TS : List Int} {ES ES' : List En} {rs : List Rw} {o : Obj} (hk : Kp D w Z2) (hp : D p) (hDl : ∀ k, D k → base ≤ k) (hlt : ∀ k, D k → k < w.heap.size) (hbase : base ≤ w.heap.size)
    (p2 : Z2.heap[p]? = some (.cells #[.int .i64 b, tv, ev] 32 (0, 0))) (i2 : Ir 0 Z2 tv TS) (x2 : XRow base Z2 ev ES) (t2 : ∀ k, tv.ownBlock = some k → News D w Z2 k) (e2 : ∀ k, ev.ownBlock = some k → News D w Z2 k)
    (hg : (Z2.alloc o).drew.grownBy z3 ev.ownBlock) (x3 : XRow base z3 ev3 ES') (hat : ev3.ownBlock = ev.ownBlock ∨ ev3.ownBlock = some (Z2.alloc o).drew.heap.size) (h1 : rs.map (·.1) = TS) (h2 : rs.map (·.2) = ES') :
    z3.cell? ⟨p, 2, none⟩ = some ev ∧ z3.frozen? ⟨p, 2, none⟩ = false ∧ Xs base (News D w (z3.setCell ⟨p, 2, none⟩ ev3)) (z3.setCell ⟨p, 2, none⟩ ev3) p b rs ∧ Kp D w (z3.setCell ⟨p, 2, none⟩ ev3) := by
  have bA : Below Z2.heap.size Z2 (Z2.alloc o).drew := ((Below.refl _ Z2).alloc (Nat.le_refl _) o).drew
  have p3 : z3.heap[p]? = some (.cells #[.int .i64 b, tv, ev] 32 (0, 0)) := (hg.block p (heap_lt (Below.stay bA p2)) (fun e => by
    obtain ⟨_, _, cur, fr, hc⟩ := x2.tag p e.symm
    rw [p2] at hc; cases hc)).trans (Below.stay bA p2)
  have k3 : Kp D w z3 := (hk.far bA).grown hg (fun k hk' e => by
    rcases e2 k e with y | y
    · exact y
    · omega)
  have k4 := k3.setCell (p := ⟨p, 2, none⟩) hp ev3
  have hs : (z3.setCell ⟨p, 2, none⟩ ev3).heap.size = z3.heap.size := by simp [World.setCell]
  have hz : Z2.heap.size ≤ z3.heap.size := Nat.le_trans bA.size hg.size
  have hw := hk.size
  refine ⟨(cell_of_block p3).trans rfl, free_of_block p3, ⟨⟨tv, ev3, setCell_block p3, ?_, ?_, fun k hk' => ?_, fun k hk' => ?_⟩, Or.inl hp, fun k hk' => ?_, fun k hk' => ?_⟩, k4⟩
  · rw [h1]
    have i3 : Ir 0 z3 tv TS := own_kept (i2.below bA) fun k hk' => hg.block k ((i2.below bA).lt k hk').2 (fun e => by
      obtain ⟨_, _, cur, fr, hc⟩ := x2.tag k e.symm
      obtain ⟨_, cur', fr', hc'⟩ := own_tag i2 k hk'
      rw [hc] at hc'; cases hc')
    exact i3.other (fun k hk' => Below.heap_setCell _ _ _ k hk') p3 (by decide)
  · rw [h2]
    refine x3.keep (fun k hk' => Below.heap_setCell _ _ _ k (fun e => ?_)) ((Below.refl _ z3).setCell (p := ⟨p, 2, none⟩) (hDl p hp) ev3)
    obtain ⟨_, _, cur, fr, hc⟩ := x3.tag k hk'
    rw [e, p3] at hc; cases hc
  · rcases t2 k hk' with y | y
    · exact Or.inl y
    · exact Or.inr ⟨y.1, by rw [hs]; omega⟩
  · have hz3 := (x3.tag k hk').2.1
    rcases hat with y | y
    · rcases e2 k (y ▸ hk') with v | v
      · exact Or.inl v
      · exact Or.inr ⟨v.1, by rw [hs]; exact hz3⟩
    · rw [y] at hk'
      cases hk'
      have := bA.size
      exact Or.inr ⟨by omega, by rw [hs]; exact hz3⟩
  · rcases hk' with y | y
    · rw [hs]; have := hlt k y; omega
    · exact y.2
  · rcases hk' with y | y
    · exact hDl k y
    · omega

set_option maxRecDepth 20000 in
set_option maxHeartbeats 4000000 in
theorem xappend_any {base : Nat} {D F : Nat → Prop} {w : World} {p : Nat} {b : Int} {rs : List Rw} (h : Xs base D w p b rs) (hf : Fit b rs) (t : Int) (ao : Option Addr) (n cap : Nat) (es : List En) (hn : es.length = n) (hn6 : n ≤ 1000000) (hes : XEs F base w ao es) (hFD : ∀ k, F k → ¬ D k) (hFl : ∀ k, F k → k < w.heap.size) (hbase : base ≤ w.heap.size) :
    Calls Try.prog 20 #[.pointer (some ⟨p, 0, none⟩), .int .i64 t, .slice ao n cap] w fun x w' =>
      x = .returned (.tuple #[.int .i64 (appN b rs t n), .int .i64 ((appNo b rs t n : Nat) : Int)]) ∧ Xs base (News D w w') w' p b (appRows b rs t es) ∧ Kp D w w' := by
  obtain ⟨R, hR⟩ : ∃ R, appNo b rs t n = R := ⟨_, rfl⟩
  have hN : appN b rs t n = if R = 0 then b + (rs.length : Int) + (n : Int) else 0 := by unfold appN; rw [hR]
  have hA : appRows b rs t es = if R = 0 then rs ++ es.map (fun e => (t, e)) else rs := by unfold appRows; rw [hn, hR]
  rw [hN, hA, hR]
  unfold appNo at hR
  have hb0 := hf.b0
  have hb1 := hf.b1
  have hn1 := hf.n1
  have LA := hide (fun Y (hY : Below w.heap.size w Y) => xlast_any (h.below hY) hf)
  have L0 := hide (xlast_any h hf)
  have TE := hide (fun Y (hY : Below w.heap.size w Y) => xterm_any (h.below hY) hf (b + (rs.length : Int)))
  obtain ⟨L, hL⟩ : ∃ L, b + (rs.length : Int) = L := ⟨_, rfl⟩
  obtain ⟨q, hq⟩ : ∃ q, termOf b rs (b + (rs.length : Int)) = q := ⟨_, rfl⟩
  rw [hq, hL] at hR
  rw [hq] at TE
  rw [hL] at LA TE L0 ⊢
  have hLb : 0 ≤ L ∧ L ≤ 2000000 := by omega
  have HH := hide h
  have HE := hide hes
  have HF := hide hf
  have FD := hide hFD
  have FL := hide hFl
  have HN := hide hn
  have HL := hide hL
  have HR := hide hR
  clear h hes hf hFD hFl hn hL hR hN hA hb0 hb1 hn1 hq
  by_cases ht1 : t < 1
  · obtain rfl : 1 = R := by have := unhide HR; rwa [if_neg (by omega)] at this
    have d1 : decide (t < 1) = true := decide_eq_true ht1
    clear HR ht1 LA L0 TE
    go_enter Try.func20, Try.ntmps20
    go_wp2
    go_ret2
    exact ⟨rfl, (unhide HH).more hbase, Kp.refl _ _⟩
  · have d1 : decide (t < 1) = false := decide_eq_false ht1
    go_enter Try.func20, Try.ntmps20
    go_wp2_with fail
    refine (unhide L0).mono ?_
    rintro x w1 ⟨rfl, b1⟩
    have T1 := hide (unhide TE _ b1)
    have B1 := hide b1
    clear b1 L0 TE
    go_wp2_with fail
    refine (unhide T1).mono ?_
    rintro x w2 ⟨rfl, b2⟩
    have B2 := hide (below_far (unhide B1) b2)
    have L2 := hide (unhide LA _ (unhide B2))
    clear b2 T1 B1
    by_cases hqt : t < q
    · obtain rfl : 1 = R := by have := unhide HR; rwa [if_neg (by omega)] at this
      have d2 : decide (t < q) = true := decide_eq_true hqt
      clear HR hqt ht1
      go_wp2
      go_ret2
      exact ⟨rfl, ((unhide HH).below (unhide B2)).more hbase, Kp.of_below (unhide B2)⟩
    · have d2 : decide (t < q) = false := decide_eq_false hqt
      have r1 := unhide HR
      rw [if_pos (by omega)] at r1
      have HR1 := hide r1
      clear r1 HR hqt ht1
      have wrL : IntKind.i64.wrap (L + (n : Int)) = L + (n : Int) := IntWalk.i64_in _ (by omega)
      go_wp2_with fail
      refine (unhide L2).mono ?_
      rintro x w3 ⟨rfl, b3⟩
      have B3 := hide (below_far (unhide B2) b3)
      clear b3 L2 B2
      by_cases hfi : L + (n : Int) ≤ 64
      · have d3 : decide ((64 : Int) < L + (n : Int)) = false := decide_eq_false (by omega)
        obtain rfl : 0 = R := by have := unhide HR1; rwa [if_pos hfi] at this
        clear HR1 LA
        go_wp2_with fail
        go_loopw [8] (fun iv wr => ∃ k : Nat, k ≤ n ∧ iv = .int .i64 (k : Int) ∧ Xs base (News D w wr) wr p b (rs ++ (es.take k).map (fun e => (t, e))) ∧ Kp D w wr) (fun iv _ => n - (intOf iv).toNat)
        case atStart => exact ⟨0, Nat.zero_le _, rfl, by rw [List.take_zero, List.map_nil, List.append_nil]; exact ((unhide HH).below (unhide B3)).more hbase, Kp.of_below (unhide B3)⟩
        case round =>
          obtain ⟨k, hk, rfl, hs, hkp⟩ := hrel
          have HS := hide hs
          have KP := hide hkp
          clear hs hkp
          by_cases hlt : k < n
          · obtain ⟨e, he⟩ : ∃ e, es[k]? = some e := ⟨_, List.getElem?_eq_getElem (by rw [unhide HN]; exact hlt)⟩
            obtain ⟨⟨tv, ev, x1, x2, x3, x4, x5⟩, x6, x7, x8⟩ := unhide HS
            have hDlow : ∀ j, D j → base ≤ j := (unhide HH).low
            have hE := (unhide HE).kp (unhide KP) (unhide FD) hDlow
            obtain ⟨g, off, mo, mc, rfl, hFg, hcl, him, hml⟩ := hE k e he
            have hq2 : (k : Int) < (n : Int) := by omega
            obtain ⟨TS, hTS⟩ : ∃ TS, (rs ++ (es.take k).map (fun e => (t, e))).map (·.1) = TS := ⟨_, rfl⟩
            obtain ⟨ES, hES⟩ : ∃ ES, (rs ++ (es.take k).map (fun e => (t, e))).map (·.2) = ES := ⟨_, rfl⟩
            rw [hTS] at x2
            rw [hES] at x3
            have hTl : TS.length ≤ 1000000 ∧ ES.length ≤ 1000000 := by
              rw [← hTS, ← hES, List.length_map, List.length_map, List.length_append, List.length_map, List.length_take]
              have := (unhide HF).n1; have := (unhide HF).b0; have := unhide HL; constructor <;> omega
            have hNX : (rs ++ (es.take (k + 1)).map (fun e => (t, e))).map (·.1) = TS ++ [t] ∧ (rs ++ (es.take (k + 1)).map (fun e => (t, e))).map (·.2) = ES ++ [e] := by
              rw [← hTS, ← hES, List.take_add_one, he]
              constructor <;> simp
            obtain ⟨ao1, c1, rfl, -⟩ := x2.slice
            obtain ⟨ao2, c2, rfl, -⟩ := x3.slice
            obtain ⟨k0, k1, k2⟩ := three_cells x1
            -- the term
            obtain ⟨V, hV⟩ : ∃ V, wr.alloc (.cells #[.int .i64 t] 3) = V := ⟨_, rfl⟩
            have bV : Below wr.heap.size wr V := by rw [← hV]; exact (Below.refl _ wr).alloc (Nat.le_refl _) _
            have hVc : V.cell? ⟨wr.heap.size, 0, none⟩ = some (.int .i64 t) := by rw [← hV]; exact (cell_of_block (box_at wr _)).trans rfl
            have X1 := hide (Below.stay bV x1)
            have X2 := hide (Ir.below x2 bV)
            have X3 := hide (x3.keep (fun j hj => bV.block j ((x3.tag j hj).2.1)) (bV.mono (Nat.le_trans hbase (unhide KP).size)))
            have X4 := hide x4
            have X5 := hide x5
            have X6 := hide x6
            have X8 := hide x8
            have HV := hide hV
            have VC := hide hVc
            have BV := hide bV
            have HTL := hide hTl
            have NX := hide hNX
            have HCL := hide hcl
            have HIM := hide him
            have HML := hide hml
            have DL := hide hDlow
            have HFG := hide hFg
            have X7 := hide x7
            clear x1 x2 x3 x4 x5 x6 x7 x8 hE hcl him hml hTl hNX hTS hES hV bV hVc he hDlow hFg HS
            go_wp2_with (rw [unhide HV]; refine wpList_appAt rfl (.tmp 35) (.tmp 37) rfl 0 (.slice ao1 TS.length c1) TS rfl (unhide X2) wr.heap.size t rfl (unhide VC) (unhide HTL).1 (Nat.zero_le _) ?_)
            intro tv2 z1 hI1 hg1 hat1
            obtain ⟨ao3, c3, rfl, -⟩ := hI1.slice
            obtain ⟨tl, htl⟩ : ∃ tl, (TS ++ [t]).length = tl := ⟨_, rfl⟩
            rw [htl] at hI1 hat1 ⊢
            have p1 : z1.heap[p]? = some (.cells #[.int .i64 b, .slice ao1 TS.length c1, .slice ao2 ES.length c2] 32 (0, 0)) := (hg1.block p (heap_lt (unhide X1)) (fun y => by
              obtain ⟨_, cur, fr, hc⟩ := own_tag (unhide X2) p y.symm
              have hq := unhide X1
              rw [hc] at hq; cases hq)).trans (unhide X1)
            have hx8 := unhide X8
            have bb1 : Below base V z1 := (Below.refl _ V).grown hg1 (Nat.le_trans hbase (Nat.le_trans (unhide KP).size (unhide BV).size)) (fun j hj => hx8 j (unhide X4 j hj))
            have e1 : XRow base z1 (.slice ao2 ES.length c2) ES := (unhide X3).keep (fun j hj => hg1.block j ((unhide X3).tag j hj).2.1 (fun y => by
              obtain ⟨_, _, cur, fr, hc⟩ := (unhide X3).tag j hj
              obtain ⟨_, cur', fr', hc'⟩ := own_tag (unhide X2) j y.symm
              rw [hc] at hc'; cases hc')) bb1
            have kk1 : Kp (News D w wr) wr z1 := (Kp.of_below (unhide BV)).grown hg1 (fun j _ hj => unhide X4 j hj)
            have c1' : z1.cell? ⟨p, 1, none⟩ = some (.slice ao1 TS.length c1) := (three_cells p1).2.1
            have f1' : z1.frozen? ⟨p, 1, none⟩ = false := free_of_block p1
            obtain ⟨Z2, hZ2⟩ : ∃ Z2, z1.setCell ⟨p, 1, none⟩ (.slice ao3 tl c3) = Z2 := ⟨_, rfl⟩
            have p2 : Z2.heap[p]? = some (.cells #[.int .i64 b, .slice ao3 tl c3, .slice ao2 ES.length c2] 32 (0, 0)) := by rw [← hZ2]; exact setCell_block p1
            have hoth : ∀ j, j ≠ p → Z2.heap[j]? = z1.heap[j]? := fun j hj => by rw [← hZ2]; exact Below.heap_setCell _ _ _ j hj
            have kk2 : Kp (News D w wr) wr Z2 := by rw [← hZ2]; exact kk1.setCell (p := ⟨p, 1, none⟩) (unhide X6) _
            have k2w : Kp D w Z2 := (unhide KP).trans kk2 (fun j hj y => y.elim id (fun v => absurd hj (by omega)))
            have s2 : Z2.heap.size = z1.heap.size := by rw [← hZ2]; simp [World.setCell]
            have i2 : Ir 0 Z2 (.slice ao3 tl c3) (TS ++ [t]) := hI1.other hoth p1 (by decide)
            have x2 : XRow base Z2 (.slice ao2 ES.length c2) ES := e1.keep (fun j hj => hoth j (fun y => by
              obtain ⟨_, _, cur, fr, hc⟩ := e1.tag j hj
              rw [y, p1] at hc; cases hc)) (by rw [← hZ2]; exact (Below.refl _ z1).setCell (p := ⟨p, 1, none⟩) (hx8 p (unhide X6)) _)
            have t2 : ∀ j, (Value.slice ao3 tl c3).ownBlock = some j → News D w Z2 j := fun j hj => by
              have hlt2 := (i2.lt j hj).2
              rcases hat1 with y | y
              · rcases unhide X4 j (y ▸ hj) with v | v
                · exact Or.inl v
                · exact Or.inr ⟨v.1, hlt2⟩
              · rw [y] at hj
                cases hj
                exact Or.inr ⟨Nat.le_trans (unhide KP).size (unhide BV).size, hlt2⟩
            have e2 : ∀ j, (Value.slice ao2 ES.length c2).ownBlock = some j → News D w Z2 j := fun j hj => by
              rcases unhide X5 j hj with v | v
              · exact Or.inl v
              · exact Or.inr ⟨v.1, (x2.tag j hj).2.1⟩
            have hnF : ¬ News D w wr g := fun y => y.elim (unhide FD g (unhide HFG)) (fun v => by have := unhide FL g (unhide HFG); omega)
            have hcl2 : ∀ (j : Nat) (u : Value), (e.cells (.slice mo e.ms.length mc))[j]? = some u → Z2.drew.cell? ⟨g, off + k * 6 + j, none⟩ = some u := fun j u hj => kk2.cell (unhide HCL j u hj) hnF
            obtain ⟨a0, a1, a2, a3, a4, a5⟩ := En.six (w := Z2.drew) hcl2
            have him2 : InF (fun j => j < base) Z2 mo e.ms := (unhide HIM).kp kk2 (fun j hj y => by have := hx8 j y; omega)
            have cp2 : Z2.drew.cell? ⟨p, 2, none⟩ = some (.slice ao2 ES.length c2) := (cell_of_block (w := Z2.drew) p2).trans rfl
            have A3 := hide (fun o => ((Below.refl Z2.heap.size Z2).alloc (Nat.le_refl _) o).drew)
            have cA : (Z2.alloc (.cells #[.int .i64 e.kind, .int .i64 e.client, .int .i64 e.seq, .string e.text, .slice mo e.ms.length mc, .int .i64 e.dest] 60)).cell? ⟨p, 2, none⟩ = some (.slice ao2 ES.length c2) := (three_cells (Below.stay (unhide A3 (.cells #[.int .i64 e.kind, .int .i64 e.client, .int .i64 e.seq, .string e.text, .slice mo e.ms.length mc, .int .i64 e.dest] 60)) p2)).2.2
            have P2 := hide p2
            have I2 := hide i2
            have X2' := hide x2
            have T2 := hide t2
            have E2 := hide e2
            have K2 := hide k2w
            have IM2 := hide him2
            have HZ2 := hide hZ2
            have XA := hide (fun o => x2.keep (fun j hj => (unhide A3 o).block j (x2.tag j hj).2.1) ((unhide A3 o).mono (Nat.le_trans hbase k2w.size)))
            have sA : ∀ o, base ≤ (Z2.alloc o).drew.heap.size := fun o => Nat.le_trans (Nat.le_trans hbase k2w.size) (unhide A3 o).size
            have SA := hide sA
            clear hI1 hat1 hg1 p1 bb1 e1 kk1 p2 hoth kk2 k2w s2 i2 x2 t2 e2 hnF hcl2 him2 hZ2 sA hx8 htl X1 X2 X3 VC HV HCL HIM
            go_upto_region 9 with fail
            rw [unhide HZ2]
            go_region_law (
              refine step_appE (.tmp 45) (.tmp 50) rfl rfl ?_
              refine wp_pushX (.tmp 45) (.tmp 50) rfl base (.slice ao2 ES.length c2) ES rfl (unhide XA _) Z2.heap.size e mo mc rfl (show (Z2.alloc _).drew.heap[Z2.heap.size]? = _ from box_at Z2 _) ((unhide IM2).below (unhide A3 _)) (unhide HML) (unhide HTL).2 (unhide SA _) ?_
              intro ev3 z3 hx3 hg3 hat3
              obtain ⟨ao4, c4, rfl, -⟩ := hx3.slice
              obtain ⟨el, hel⟩ : ∃ el, (ES ++ [e]).length = el := ⟨_, rfl⟩
              rw [hel] at hx3 hat3 ⊢
              obtain ⟨f1, f2, f3, f4⟩ := x_fin (unhide K2) ((unhide HH).own) (unhide DL) (unhide HH).lt hbase (unhide P2) (unhide I2) (unhide X2') (unhide T2) (unhide E2) hg3 hx3 hat3 (unhide NX).1 (unhide NX).2
              have F3 := hide f3
              have F4 := hide f4
              clear hx3 hg3 hat3 f3 f4 hel)
            all_goals clear a0 a1 a2 a3 a4 a5 cp2 cA
            all_goals go_wp2
            all_goals (
              go_roundw
              case rel => exact ⟨k + 1, by omega, by go_num, unhide F3, unhide F4⟩
              case measure => simp [intOf]; omega)
          · obtain rfl : k = n := by omega
            have hs := unhide HS
            rw [List.take_of_length_le (by rw [unhide HN]; exact Nat.le_refl _)] at hs
            have LF := hide (xlast_any hs (by
              refine ⟨(unhide HF).b0, (unhide HF).b1, ?_⟩
              rw [List.length_append, List.length_map, unhide HN]; have := unhide HL; have := (unhide HF).b0; omega))
            have e1 : b + (((rs ++ es.map (fun e => (t, e))).length : Nat) : Int) = L + (k : Int) := by
              rw [List.length_append, List.length_map, unhide HN]; have := unhide HL; omega
            rw [e1] at LF
            have H7 := hide hs
            clear hs HS e1
            go_wp2_with fail
            refine (unhide LF).mono ?_
            rintro x w7 ⟨rfl, b7⟩
            have B7 := hide b7
            clear b7 LF
            go_wp2
            go_ret2
            refine ⟨rfl, ?_, (unhide KP).far (unhide B7)⟩
            obtain ⟨⟨tv, ev, q1, q2, q3, q4, q5⟩, q6, q7, q8⟩ := (unhide H7).below (unhide B7)
            have hs7 := (unhide B7).size
            exact ⟨⟨tv, ev, q1, q2, q3, fun j hj => (q4 j hj).elim Or.inl (fun y => Or.inr ⟨y.1, by omega⟩), fun j hj => (q5 j hj).elim Or.inl (fun y => Or.inr ⟨y.1, by omega⟩)⟩, q6.elim Or.inl (fun y => Or.inr ⟨y.1, by omega⟩), fun j hj => hj.elim (fun y => q7 j (Or.inl y)) (fun y => y.2), fun j hj => hj.elim (fun y => q8 j (Or.inl y)) (fun y => by omega)⟩
      · have d3 : decide ((64 : Int) < L + (n : Int)) = true := decide_eq_true (by omega)
        obtain rfl : 14 = R := by have := unhide HR1; rwa [if_neg hfi] at this
        clear HR1 hfi
        go_wp2
        go_ret2
        exact ⟨rfl, ((unhide HH).below (unhide B3)).more hbase, Kp.of_below (unhide B3)⟩
end Go.Proofs.Ytmgdkbpbmngibaa
namespace Go.Proofs.Ytmgdkbpbmngibaa
open Go.RowKit Go.Maps

theorem run_catI {w : World} {base : Nat} {v : Value} {xs : List Int} (hown : Ir base w v xs) (ty : TypeId) (ao : Option Addr) (m c : Nat) (ys : List Int) (hm : ys.length = m) (hy : IntsR w ao ys) (hl : xs.length + m ≤ 1000000000) (hb : base ≤ w.heap.size) :
    ∃ v' w', (Builtin.append_ #[29, 29] ty #[v, .slice ao m c]).run Try.prog w = .ok v' w' ∧ Ir base w' v' (xs ++ ys) ∧ w.grownBy w' v.ownBlock ∧ (v'.ownBlock = v.ownBlock ∨ v'.ownBlock = some w.heap.size) := by
  obtain ⟨i0, hi0, hz0, hz1, hz2⟩ := info_parts Try.infoI
  cases ao with
  | none =>
    obtain rfl := hy.none_nil
    simp only [List.length_nil] at hm
    subst hm
    obtain ⟨av, cv, rfl, _, hc, _⟩ := hown.slice
    have hr := run_append_nothing (P := Try.prog) w 29 29 ty 3 i0 Try.underlying29 hi0 av xs.length cv hc (.slice none 0 c) (Src.ofNil w Try.underlying29 c)
    exact ⟨_, _, hr, by simpa using hown, ⟨rfl, rfl, rfl, Nat.le_refl _, fun _ _ _ => rfl⟩, Or.inl rfl⟩
  | some ad =>
    obtain ⟨v', w', hr, o', g', _, hat⟩ := run_append_own_at (P := Try.prog) w base 29 ty 3 i0 _ 1 8 Try.underlying29 hi0 hz0 hz1 hz2 rfl (by decide) v xs.length (i64s xs) hown ad m c (i64s ys) (by rw [i64s, List.length_map, hm]; omega)
      (fun j u hj => by
        rw [i64s, List.getElem?_map] at hj
        cases hq : ys[j]? with
        | none => rw [hq] at hj; simp at hj
        | some y =>
          rw [hq] at hj; simp at hj; subst hj
          obtain ⟨a, e, hcell⟩ := hy j (List.getElem?_eq_some_iff.1 hq).1
          cases e
          rw [hcell, List.getD_eq_getElem?_getD, hq]; rfl)
      (i64s_one ys) (by unfold maxLen; omega) (by omega) hb
    refine ⟨v', w', hr, ?_, g', hat⟩
    unfold Ir
    rw [List.length_append, hm, i64s_append]; exact o'
theorem wp_catI {w : World} {o : Oper} {a : Act} {K : Act → World → Prop} {Q : Exit → Act → World → Prop} (s x : Operand)
    (ho : o.op = .call { callee := .builtin .append, args := #[s, x], argTypes := #[29, 29] }) (base : Nat) (v : Value) (xs : List Int) (hown : Ir base w v xs) (hs : a.eval s = v)
    (ao : Option Addr) (m c : Nat) (ys : List Int) (hx : a.eval x = .slice ao m c) (hm : ys.length = m) (hy : IntsR w ao ys) (hl : xs.length + m ≤ 1000000000) (hb : base ≤ w.heap.size)
    (h : ∀ v' w', Ir base w' v' (xs ++ ys) → w.grownBy w' v.ownBlock → (v'.ownBlock = v.ownBlock ∨ v'.ownBlock = some w.heap.size) → K (a.put o.dst v') w') :
    Oper.wp Try.prog o a w K Q := by
  obtain ⟨v', w', hr, h1, h2, h3⟩ := run_catI hown o.type ao m c ys hm hy hl hb
  unfold Oper.wp execOp
  simp only [ho, resolve, invoke, builtin, Sem.run_bind, Sem.run_pure, Result.andThen_ok, List.map_toArray, List.map_cons, List.map_nil, hs, hx, hr]
  exact h v' w' h1 h2 h3

theorem step_appI {w : World} {ops : Array Oper} {o : Oper} {a : Act} {K : Act → World → Prop} {Q : Exit → Act → World → Prop} {E : Prop} (s x : Operand) (_ho : o.op = .call { callee := .builtin .append, args := #[s, x], argTypes := #[29, 29] }) (hg : o.guard = none) (h : Oper.wp Try.prog o a w K Q) :
    if Region.wanted o (yielded ops a.tmps) = true then Oper.wp Try.prog o a w K Q else E := step_on hg h
/-- a front of a row of entries, laid behind another one. -/
theorem run_catX {base : Nat} {w : World} {v : Value} {es : List En} (h : XRow base w v es) (ty : TypeId) (ao : Option Addr) (n cap : Nat) (ES : List En) (hE : XRow base w (.slice ao n cap) ES) (k c : Nat) (hk : k ≤ ES.length) (hl : es.length + k ≤ 1000000) (hb : base ≤ w.heap.size) :
    ∃ v' w', (Builtin.append_ #[30, 30] ty #[v, .slice ao k c]).run Try.prog w = .ok v' w' ∧ XRow base w' v' (es ++ ES.take k) ∧ w.grownBy w' v.ownBlock ∧ (v'.ownBlock = v.ownBlock ∨ v'.ownBlock = some w.heap.size) := by
  obtain ⟨i0, hi, hz0, hz1, hz2⟩ := info_parts Try.infoEn
  obtain ⟨xs, h1, h3⟩ := h
  obtain ⟨ys, y1, y3⟩ := hE
  rcases y1.2 with ⟨e1, e2⟩ | ⟨g, cap', cur, e1, e2, e3, e4⟩
  · have k0 : k = 0 := by omega
    subst k0
    have ha : ao = none := by simp only [Value.slice.injEq] at e1; exact e1.1
    subst ha
    obtain ⟨av, cv, rfl, hc, _⟩ := XRow.slice (base := base) (w := w) (v := v) (es := es) ⟨xs, h1, h3⟩
    have hr := run_append_nothing (P := Try.prog) w 30 30 ty 60 i0 Try.underlying30 hi av es.length cv hc (.slice none 0 c) (Src.ofNil w Try.underlying30 c)
    exact ⟨_, _, hr, by rw [List.take_zero, List.append_nil]; exact ⟨xs, h1, h3⟩, ⟨rfl, rfl, rfl, Nat.le_refl _, fun _ _ _ => rfl⟩, Or.inl rfl⟩
  · have ha : ao = some ⟨g, 0, none⟩ := by simp only [Value.slice.injEq] at e1; exact e1.1
    subst ha
    have hyl : ys.length = ES.length * 6 := y1.1
    have hin : ∀ (q : Nat) (u : Value), (ys.take (k * 6))[q]? = some u → ys[q]? = some u ∧ q < k * 6 := fun q u hq => by
      have hlt := (List.getElem?_eq_some_iff.1 hq).1
      rw [List.length_take] at hlt
      rw [List.getElem?_take_of_lt (by omega)] at hq
      exact ⟨hq, by omega⟩
    obtain ⟨v', w', hr, o', g', _, hat⟩ := run_append_own_at (P := Try.prog) w base 30 ty 60 i0 _ 6 72 Try.underlying30 hi hz0 hz1 hz2 rfl (by decide) v es.length xs h1 ⟨g, 0, none⟩ k c (ys.take (k * 6)) (by rw [List.length_take]; omega)
      (fun j u hj => World.ownsRow.cells (by rw [e1] at y1; exact y1) (g := g) rfl j u (hin j u hj).1)
      (fun u hu => by
        obtain ⟨q, hq⟩ := List.getElem?_of_mem hu
        obtain ⟨hq1, hq2⟩ := hin q u hq
        obtain ⟨e, he⟩ : ∃ e, ES[q / 6]? = some e := ⟨_, List.getElem?_eq_getElem (by omega)⟩
        obtain ⟨mo, mc, k1, _, _⟩ := y3 (q / 6) e he
        obtain ⟨u', hu'⟩ : ∃ u', (e.cells (.slice mo e.ms.length mc))[q % 6]? = some u' := ⟨_, List.getElem?_eq_getElem (by show q % 6 < 6; omega)⟩
        have := k1 (q % 6) u' hu'
        rw [show q / 6 * 6 + q % 6 = q by omega, hq1] at this
        cases this
        exact En.cells_one e rfl u (List.mem_of_getElem? hu')) (by unfold maxLen; omega) (by omega) hb
    have bb : Below base w w' := (Below.refl _ _).grown g' hb (fun k hk => (h1.lt k hk).1)
    have keep : ∀ (u : Option Addr) (zs : List Int), InF (fun k => k < base) w u zs → InF (fun k => k < base) w' u zs := fun u zs hu j hj => by
      obtain ⟨a, a1, a2, a3⟩ := hu j hj
      exact ⟨a, a1, a2, by rw [bb.cell (by rw [add_block]; exact a2)]; exact a3⟩
    have hxl : xs.length = es.length * 6 := h1.1
    refine ⟨v', w', hr, ⟨_, by rw [List.length_append, List.length_take, Nat.min_eq_left hk]; exact o', fun i q hq => ?_⟩, g', hat⟩
    by_cases he : i < es.length
    · rw [List.getElem?_append_left he] at hq
      obtain ⟨u, c, u1, u2, u4⟩ := h3 i q hq
      refine ⟨u, c, fun j z hj => ?_, keep u _ u2, u4⟩
      have hj6 : j < 6 := (List.getElem?_eq_some_iff.1 hj).1
      rw [List.getElem?_append_left (by omega)]; exact u1 j z hj
    · rw [List.getElem?_append_right (by omega)] at hq
      have hik : i - es.length < k := by have := (List.getElem?_eq_some_iff.1 hq).1; rw [List.length_take] at this; omega
      rw [List.getElem?_take_of_lt hik] at hq
      obtain ⟨u, c, u1, u2, u4⟩ := y3 _ q hq
      refine ⟨u, c, fun j z hj => ?_, keep u _ u2, u4⟩
      have hj6 : j < 6 := (List.getElem?_eq_some_iff.1 hj).1
      rw [List.getElem?_append_right (by omega), show i * 6 + j - xs.length = (i - es.length) * 6 + j by omega, List.getElem?_take_of_lt (by omega)]
      exact u1 j z hj
theorem wp_catX {w : World} {o : Oper} {a : Act} {K : Act → World → Prop} {Q : Exit → Act → World → Prop} (s x : Operand)
    (ho : o.op = .call { callee := .builtin .append, args := #[s, x], argTypes := #[30, 30] }) (base : Nat) (v : Value) (es : List En) (h : XRow base w v es) (hs : a.eval s = v)
    (ao : Option Addr) (n cap : Nat) (ES : List En) (hE : XRow base w (.slice ao n cap) ES) (k c : Nat) (hk : k ≤ ES.length) (hx : a.eval x = .slice ao k c) (hl : es.length + k ≤ 1000000) (hb : base ≤ w.heap.size)
    (hK : ∀ v' w', XRow base w' v' (es ++ ES.take k) → w.grownBy w' v.ownBlock → (v'.ownBlock = v.ownBlock ∨ v'.ownBlock = some w.heap.size) → K (a.put o.dst v') w') :
    Oper.wp Try.prog o a w K Q := by
  obtain ⟨v', w', hr, h1, h2, h3⟩ := run_catX h o.type ao n cap ES hE k c hk hl hb
  unfold Oper.wp execOp
  simp only [ho, resolve, invoke, builtin, Sem.run_bind, Sem.run_pure, Result.andThen_ok, List.map_toArray, List.map_cons, List.map_nil, hs, hx, hr]
  exact hK v' w' h1 h2 h3
/-- no numbers, no entries, in memory of their own. -/
theorem empty_ints (w : World) : Ir w.heap.size (w.alloc (.cells #[] 3)) (.slice (some ⟨w.heap.size, 0, none⟩) 0 0) [] :=
  ⟨rfl, Or.inr ⟨w.heap.size, 0, #[], rfl, Nat.le_refl _, heap_alloc_new _ _, by simp [maxLen, i64s]⟩⟩
theorem empty_ents (base : Nat) (w : World) (hb : base ≤ w.heap.size) : XRow base (w.alloc (.cells #[] 60)) (.slice (some ⟨w.heap.size, 0, none⟩) 0 0) [] :=
  ⟨[], ⟨rfl, Or.inr ⟨w.heap.size, 0, #[], rfl, hb, heap_alloc_new _ _, by simp [maxLen]⟩⟩, fun i e hi => by simp at hi⟩
end Go.Proofs.Ytmgdkbpbmngibaa
