/- The document's own log: From, Newer: contracts; entries laid behind a row, from wherever they lie. The document's own log: From: a contract. The document's own log: Newer: a contract. -/
import Derived.Test.YtmgdkbpbmngibaaHXPutA
import Derived.Test.YtmgdkbpbmngibaaHXRef2
import Derived.Test.YtmgdkbpbmngibaaHNwr
import Derived.Deep.RegionHeld3
import Derived.Deep.DrawnRows
import Derived.Deep.DeepCutAuto
import Derived.Deep.CutBlock
namespace Go.Proofs.Ytmgdkbpbmngibaa
open Go.RowKit Go.Maps
attribute [local go_sem ↓] Go.wp_at_zero Go.wp_at_succ

theorem run_catE {base : Nat} {F : Nat → Prop} {w : World} {v : Value} {es : List En} (h : XRow base w v es) (ty : TypeId) (ao : Option Addr) (k c : Nat) (ES : List En) (hk : ES.length = k) (hE : XEs F base w ao ES) (hl : es.length + k ≤ 1000000) (hb : base ≤ w.heap.size) :
    ∃ v' w', (Builtin.append_ #[30, 30] ty #[v, .slice ao k c]).run Try.prog w = .ok v' w' ∧ XRow base w' v' (es ++ ES) ∧ w.grownBy w' v.ownBlock ∧ (v'.ownBlock = v.ownBlock ∨ v'.ownBlock = some w.heap.size) := by
  obtain ⟨i0, hi, hz0, hz1, hz2⟩ := info_parts Try.infoEn
  obtain ⟨xs, h1, h3⟩ := h
  cases ao with
  | none =>
    have hes : ES = [] := by
      cases ES with
      | nil => rfl
      | cons e ES => obtain ⟨g, off, mo, cap, e1, _⟩ := hE 0 e rfl; cases e1
    subst hes
    simp only [List.length_nil] at hk
    subst hk
    obtain ⟨av, cv, rfl, hc, _⟩ := XRow.slice (base := base) (w := w) (v := v) (es := es) ⟨xs, h1, h3⟩
    have hr := run_append_nothing (P := Try.prog) w 30 30 ty 60 i0 Try.underlying30 hi av es.length cv hc (.slice none 0 c) (Src.ofNil w Try.underlying30 c)
    exact ⟨_, _, hr, by rw [List.append_nil]; exact ⟨xs, h1, h3⟩, ⟨rfl, rfl, rfl, Nat.le_refl _, fun _ _ _ => rfl⟩, Or.inl rfl⟩
  | some ad =>
    obtain ⟨ys, hys⟩ : ∃ ys, (List.range (k * 6)).map (fun q => (w.cell? (ad.add q)).getD (.bool false)) = ys := ⟨_, rfl⟩
    have hyl : ys.length = k * 6 := by rw [← hys]; simp
    have hy : ∀ (i : Nat) (e : En), ES[i]? = some e → ∃ mo mc, (∀ (j : Nat) (u : Value), (e.cells (.slice mo e.ms.length mc))[j]? = some u → ys[i * 6 + j]? = some u ∧ w.cell? (ad.add (i * 6 + j)) = some u) ∧ InF (fun k => k < base) w mo e.ms ∧ e.ms.length ≤ 1000000 := fun i e hi' => by
      obtain ⟨g, off, mo, cap, e1, _, e3, e4, e5⟩ := hE i e hi'
      cases e1
      refine ⟨mo, cap, fun j u hj => ?_, e4, e5⟩
      have hj6 : j < 6 := (List.getElem?_eq_some_iff.1 hj).1
      have hik := (List.getElem?_eq_some_iff.1 hi').1
      have hc : w.cell? ((⟨g, off, none⟩ : Addr).add (i * 6 + j)) = some u := by rw [Addr.add_lit, ← Nat.add_assoc]; exact e3 j u hj
      refine ⟨?_, hc⟩
      rw [← hys, List.getElem?_map, List.getElem?_range (by omega)]
      simp [hc]
    have hpt : ∀ (q : Nat) (u : Value), ys[q]? = some u → ∃ (e : En) (mo : Option Addr) (mc : Nat), u ∈ e.cells (.slice mo e.ms.length mc) ∧ w.cell? (ad.add q) = some u := fun q u hq => by
      have hlt := (List.getElem?_eq_some_iff.1 hq).1
      obtain ⟨e, he⟩ : ∃ e, ES[q / 6]? = some e := ⟨_, List.getElem?_eq_getElem (by omega)⟩
      obtain ⟨mo, mc, k1, _, _⟩ := hy (q / 6) e he
      obtain ⟨u', hu'⟩ : ∃ u', (e.cells (.slice mo e.ms.length mc))[q % 6]? = some u' := ⟨_, List.getElem?_eq_getElem (by show q % 6 < 6; omega)⟩
      have hh := k1 (q % 6) u' hu'
      rw [show q / 6 * 6 + q % 6 = q by omega, hq] at hh
      obtain ⟨hh1, hh2⟩ := hh
      cases hh1
      exact ⟨e, mo, mc, List.mem_of_getElem? hu', hh2⟩
    obtain ⟨v', w', hr, o', g', _, hat⟩ := run_append_own_at (P := Try.prog) w base 30 ty 60 i0 _ 6 72 Try.underlying30 hi hz0 hz1 hz2 rfl (by decide) v es.length xs h1 ad k c ys hyl
      (fun j u hj => (hpt j u hj).elim fun _ h => h.elim fun _ h => h.elim fun _ h => h.2)
      (fun u hu => by
        obtain ⟨q, hq⟩ := List.getElem?_of_mem hu
        obtain ⟨e, mo, mc, hm, _⟩ := hpt q u hq
        exact En.cells_one e rfl u hm) (by unfold maxLen; omega) (by omega) hb
    have bb : Below base w w' := (Below.refl _ _).grown g' hb (fun k hk => (h1.lt k hk).1)
    have keep : ∀ (u : Option Addr) (zs : List Int), InF (fun k => k < base) w u zs → InF (fun k => k < base) w' u zs := fun u zs hu j hj => by
      obtain ⟨a, a1, a2, a3⟩ := hu j hj
      exact ⟨a, a1, a2, by rw [bb.cell (by rw [add_block]; exact a2)]; exact a3⟩
    have hxl : xs.length = es.length * 6 := h1.1
    refine ⟨v', w', hr, ⟨_, by rw [List.length_append, hk]; exact o', fun i q hq => ?_⟩, g', hat⟩
    by_cases he : i < es.length
    · rw [List.getElem?_append_left he] at hq
      obtain ⟨u, c, u1, u2, u4⟩ := h3 i q hq
      refine ⟨u, c, fun j z hj => ?_, keep u _ u2, u4⟩
      have hj6 : j < 6 := (List.getElem?_eq_some_iff.1 hj).1
      rw [List.getElem?_append_left (by omega)]; exact u1 j z hj
    · rw [List.getElem?_append_right (by omega)] at hq
      obtain ⟨u, c, u1, u2, u4⟩ := hy _ q hq
      refine ⟨u, c, fun j z hj => ?_, keep u _ u2, u4⟩
      have hj6 : j < 6 := (List.getElem?_eq_some_iff.1 hj).1
      rw [List.getElem?_append_right (by omega), show i * 6 + j - xs.length = (i - es.length) * 6 + j by omega]
      exact (u1 j z hj).1
theorem wp_catE {F : Nat → Prop} {w : World} {o : Oper} {a : Act} {K : Act → World → Prop} {Q : Exit → Act → World → Prop} (s x : Operand)
    (ho : o.op = .call { callee := .builtin .append, args := #[s, x], argTypes := #[30, 30] }) (base : Nat) (v : Value) (es : List En) (h : XRow base w v es) (hs : a.eval s = v)
    (ao : Option Addr) (k c : Nat) (ES : List En) (hx : a.eval x = .slice ao k c) (hk : ES.length = k) (hE : XEs F base w ao ES) (hl : es.length + k ≤ 1000000) (hb : base ≤ w.heap.size)
    (hK : ∀ v' w', XRow base w' v' (es ++ ES) → w.grownBy w' v.ownBlock → (v'.ownBlock = v.ownBlock ∨ v'.ownBlock = some w.heap.size) → K (a.put o.dst v') w') :
    Oper.wp Try.prog o a w K Q := by
  obtain ⟨v', w', hr, h1, h2, h3⟩ := run_catE h o.type ao k c ES hk hE hl hb
  unfold Oper.wp execOp
  simp only [ho, resolve, invoke, builtin, Sem.run_bind, Sem.run_pure, Result.andThen_ok, List.map_toArray, List.map_cons, List.map_nil, hs, hx, hr]
  exact hK v' w' h1 h2 h3

/-! ### rows that begin empty, in memory of the call's own -/
structure Emp (w Y : World) (g : Nat) (t : TypeId) : Prop where
  lo : w.heap.size ≤ g
  at' : Y.heap[g]? = some (.cells #[] t (0, 0))
  bl : Below w.heap.size w Y
theorem emp_1 {w Z : World} {t : TypeId} (h : Below w.heap.size w Z) : Emp w (Z.alloc (.cells #[] t)) Z.heap.size t := ⟨h.size, box_at _ _, h.alloc h.size _⟩
theorem emp_2 {w Z : World} {t : TypeId} (h : Below w.heap.size w Z) (o : Obj) : Emp w ((Z.alloc (.cells #[] t)).alloc o) Z.heap.size t := ⟨h.size, (at_two Z _ o).1, (h.alloc h.size _).alloc (by rw [two_sizes]; have := h.size; omega) _⟩
theorem emp_3 {w Z : World} {t : TypeId} (h : Below w.heap.size w Z) (o : Obj) : Emp w ((Z.alloc o).alloc (.cells #[] t)) (Z.heap.size + 1) t := ⟨by have := h.size; omega, (at_two Z o _).2, (h.alloc h.size _).alloc (by rw [two_sizes]; have := h.size; omega) _⟩
theorem Emp.drew {w Y : World} {g : Nat} {t : TypeId} (h : Emp w Y g t) : Emp w Y.drew g t := ⟨h.lo, h.at', h.bl.drew⟩
theorem Emp.ints {w Y : World} {g : Nat} (h : Emp w Y g 3) : Ir w.heap.size Y (.slice (some ⟨g, 0, none⟩) 0 0) [] := ⟨rfl, Or.inr ⟨g, 0, #[], rfl, h.lo, h.at', by simp [maxLen, i64s]⟩⟩
theorem Emp.ents {base : Nat} {w Y : World} {g : Nat} (h : Emp w Y g 60) (hb : base ≤ w.heap.size) : XRow base Y (.slice (some ⟨g, 0, none⟩) 0 0) [] :=
  ⟨[], ⟨rfl, Or.inr ⟨g, 0, #[], rfl, Nat.le_trans hb h.lo, h.at', by simp [maxLen]⟩⟩, fun i e hi => by simp at hi⟩
theorem Emp.grown {w Y Z : World} {g : Nat} {t : TypeId} (h : Emp w Y g t) (hg : Y.grownBy Z (Value.slice (some ⟨g, 0, none⟩) 0 0).ownBlock) : Below w.heap.size w Z := h.bl.grown hg h.bl.size (fun c hc => by simp [Value.ownBlock] at hc; have := h.lo; omega)
/-- a row beside the one that is grown: the one of numbers, the other of entries. -/
theorem Emp.far {w Y Z : World} {g g2 : Nat} {t t2 : TypeId} (h : Emp w Y g t) (h2 : Emp w Y g2 t2) (ht : t2 ≠ t) (hg : Y.grownBy Z (Value.slice (some ⟨g, 0, none⟩) 0 0).ownBlock) : Emp w Z g2 t2 :=
  ⟨h2.lo, (hg.block g2 (heap_lt h2.at') (fun x => by
    simp only [Value.ownBlock, Option.some.injEq] at x
    subst x
    have := h.at'.symm.trans h2.at'
    simp only [Option.some.injEq, Obj.cells.injEq] at this
    exact ht this.2.1.symm)).trans h2.at', h.grown hg⟩
theorem Emp.intsFar {w Y Z : World} {g b : Nat} {v : Value} {ys : List Int} (h : Emp w Y g 60) (hI : Ir b Y v ys) (hg : Y.grownBy Z (Value.slice (some ⟨g, 0, none⟩) 0 0).ownBlock) : Ir b Z v ys := by
  refine own_kept hI (fun k hk => hg.block k (hI.lt k hk).2 (fun x => ?_))
  obtain ⟨_, cur, fr, hc⟩ := own_tag hI k hk
  simp only [Value.ownBlock, Option.some.injEq] at x
  subst x
  have := h.at'.symm.trans hc
  simp only [Option.some.injEq, Obj.cells.injEq] at this
  exact absurd this.2.1 (by decide)
/-- a row of entries that was made since w0. -/
def XN (base : Nat) (w0 w : World) (v : Value) (es : List En) : Prop := XRow base w v es ∧ ∀ k, v.ownBlock = some k → w0.heap.size ≤ k
theorem XN.slice {base : Nat} {w0 w : World} {v : Value} {es : List En} (h : XN base w0 w v es) : ∃ ao cap, v = .slice ao es.length cap ∧ es.length ≤ cap ∧ cap ≤ maxLen := h.1.slice
theorem XN.belowX {base : Nat} {w0 w w' : World} {v : Value} {es : List En} (h : XN base w0 w v es) (hb : Below w.heap.size w w') (hs : base ≤ w.heap.size) : XN base w0 w' v es := ⟨h.1.belowX hb hs, h.2⟩
theorem XN.esR {base : Nat} {w0 w : World} {ao : Option Addr} {n cap : Nat} {es : List En} (h : XN base w0 w (.slice ao n cap) es) : EsR (fun k => k < base ∨ w0.heap.size ≤ k) w ao es := fun i e hi => by
  obtain ⟨g, mo, mc, e1, e2, e3, e4⟩ := h.1.at hi
  refine ⟨g, 0, mo, mc, e1, Or.inr (h.2 g (by rw [e1]; rfl)), fun j u hj => ?_, e3.mono (fun k hk => Or.inl hk), e4⟩
  rw [Nat.zero_add]; exact e2 j u hj
theorem Emp.entsFar {base : Nat} {w0 w Y Z : World} {g : Nat} {v : Value} {es : List En} (h : Emp w Y g 3) (hX : XN base w0 Y v es) (hb : base ≤ w.heap.size) (hg : Y.grownBy Z (Value.slice (some ⟨g, 0, none⟩) 0 0).ownBlock) : XN base w0 Z v es := by
  refine ⟨hX.1.keep (fun k hk => hg.block k (hX.1.tag k hk).2.1 (fun x => ?_)) ((Below.refl base Y).grown hg (Nat.le_trans hb h.bl.size) (fun c hc => by simp [Value.ownBlock] at hc; have := h.lo; omega)), hX.2⟩
  obtain ⟨_, _, cur, fr, hc⟩ := hX.1.tag k hk
  simp only [Value.ownBlock, Option.some.injEq] at x
  subst x
  have := h.at'.symm.trans hc
  simp only [Option.some.injEq, Obj.cells.injEq] at this
  exact absurd this.2.1 (by decide)
theorem Ir.from {base : Nat} {w : World} {g n c : Nat} {ys : List Int} (h : Ir base w (.slice (some ⟨g, 0, none⟩) n c) ys) (d : Nat) : IntsR w (some ⟨g, d, none⟩) (ys.drop d) := fun i hi => by
  obtain ⟨ao, cap, e, hfr, _⟩ := h.slice
  cases e
  rw [List.length_drop] at hi
  obtain ⟨a, e, hc⟩ := hfr.1 (d + i) (by omega)
  cases e
  refine ⟨_, rfl, ?_⟩
  rw [Addr.add_lit] at hc ⊢
  rw [Nat.zero_add] at hc
  rw [hc, List.getD_eq_getElem?_getD, List.getD_eq_getElem?_getD, List.getElem?_drop]
theorem XRow.from {base : Nat} {w : World} {g n c : Nat} {es : List En} (h : XRow base w (.slice (some ⟨g, 0, none⟩) n c) es) (d : Nat) : XEs (fun k => k < w.heap.size) base w (some ⟨g, d * 6, none⟩) (es.drop d) := fun i e hi => by
  rw [List.getElem?_drop] at hi
  obtain ⟨g', mo, mc, e1, e2, e3, e4⟩ := h.at hi
  cases e1
  exact ⟨g, d * 6, mo, mc, rfl, blk_lt (e2 0 _ rfl), fun j u hj => by have := e2 j u hj; rwa [show (d + i) * 6 + j = d * 6 + i * 6 + j by omega] at this, e3, e4⟩
theorem XEs.below {F : Nat → Prop} {base : Nat} {w w' : World} {ao : Option Addr} {es : List En} (h : XEs F base w ao es) (hb : Below w.heap.size w w') : XEs F base w' ao es := h.kp (D := fun _ => False) (Kp.of_below hb) (fun _ _ x => x) (fun _ x => x.elim)
theorem Ir.block {base : Nat} {w : World} {ao : Option Addr} {n c : Nat} {ys : List Int} (h : Ir base w (.slice ao n c) ys) (hn : 0 < ys.length) : ∃ g, ao = some ⟨g, 0, none⟩ := by
  rcases h.2 with ⟨_, e⟩ | ⟨g, cap, cur, e, _⟩
  · omega
  · simp only [Value.slice.injEq] at e
    exact ⟨g, e.1⟩
theorem wp_catIE {w0 Y : World} {g : Nat} (E : Emp w0 Y g 3) {o : Oper} {a : Act} {K : Act → World → Prop} {Q : Exit → Act → World → Prop} (s x : Operand)
    (ho : o.op = .call { callee := .builtin .append, args := #[s, x], argTypes := #[29, 29] }) (hs : a.eval s = .slice (some ⟨g, 0, none⟩) 0 0)
    (ao : Option Addr) (m c : Nat) (ys : List Int) (hx : a.eval x = .slice ao m c) (hm : ys.length = m) (hy : IntsR Y ao ys) (hl : m ≤ 1000000)
    (h : ∀ v' w', Ir w0.heap.size w' v' ys → Y.grownBy w' (Value.slice (some ⟨g, 0, none⟩) 0 0).ownBlock → K (a.put o.dst v') w') :
    Oper.wp Try.prog o a Y K Q :=
  wp_catI s x ho w0.heap.size _ [] E.ints hs ao m c ys hx hm hy (by simp; omega) E.bl.size (fun v' w' h1 h2 _ => h v' w' h1 h2)
theorem wp_catEE {F : Nat → Prop} {base : Nat} {w0 Y : World} {g : Nat} (E : Emp w0 Y g 60) (hb : base ≤ w0.heap.size) {o : Oper} {a : Act} {K : Act → World → Prop} {Q : Exit → Act → World → Prop} (s x : Operand)
    (ho : o.op = .call { callee := .builtin .append, args := #[s, x], argTypes := #[30, 30] }) (hs : a.eval s = .slice (some ⟨g, 0, none⟩) 0 0)
    (ao : Option Addr) (m c : Nat) (ys : List En) (hx : a.eval x = .slice ao m c) (hm : ys.length = m) (hy : XEs F base Y ao ys) (hl : m ≤ 1000000)
    (h : ∀ v' w', XN base w0 w' v' ys → Y.grownBy w' (Value.slice (some ⟨g, 0, none⟩) 0 0).ownBlock → K (a.put o.dst v') w') :
    Oper.wp Try.prog o a Y K Q :=
  wp_catE s x ho base _ [] (E.ents hb) hs ao m c ys hx hm hy (by simp; omega) (Nat.le_trans hb E.bl.size) (fun v' w' h1 h2 h3 => h v' w' ⟨h1, fun k hk => by
    rcases h3 with e | e
    · rw [e] at hk; simp [Value.ownBlock] at hk; have := E.lo; omega
    · rw [e] at hk; have := E.bl.size; simp at hk; omega⟩ h2)
end Go.Proofs.Ytmgdkbpbmngibaa
namespace Go.Proofs.Ytmgdkbpbmngibaa
open Go.RowKit Go.Maps
attribute [local go_sem ↓] Go.wp_at_zero Go.wp_at_succ

set_option maxRecDepth 1000000 in
set_option maxHeartbeats 16000000 in
theorem xfrom_any {base : Nat} {D : Nat → Prop} {w : World} {p : Nat} {b : Int} {rs : List Rw} (h : Xs base D w p b rs) (hf : Fit b rs) (i : Int) (hbase : base ≤ w.heap.size) :
    Calls Try.prog 22 #[.pointer (some ⟨p, 0, none⟩), .int .i64 i] w fun x w' => ∃ tv ev, x = .returned (.tuple #[tv, ev]) ∧ Ir w.heap.size w' tv ((rs.drop (aheadOf b rs i)).map (·.1)) ∧ XRow base w' ev ((rs.drop (aheadOf b rs i)).map (·.2)) ∧ Below w.heap.size w w' := by
  have hb0 := hf.b0
  have hb1 := hf.b1
  have hn1 := hf.n1
  have LA := hide (xlast_any h hf)
  obtain ⟨L, hL⟩ : ∃ L, b + (rs.length : Int) = L := ⟨_, rfl⟩
  rw [hL] at LA
  obtain ⟨K, hK⟩ : ∃ K, (if i ≤ b then b + 1 else i) = K := ⟨_, rfl⟩
  obtain ⟨d, hd⟩ : ∃ d, aheadOf b rs i = d := ⟨_, rfl⟩
  have hKd : K ≤ L → K - b - 1 = (d : Int) ∧ d < rs.length := fun hk => by
    rw [← hd]
    unfold aheadOf
    by_cases g : i ≤ b
    · rw [if_pos g] at hK ⊢
      omega
    · rw [if_neg g] at hK ⊢
      omega
  have hKn : L < K → rs.drop d = [] := fun hk => by
    apply List.drop_of_length_le
    rw [← hd]
    unfold aheadOf
    by_cases g : i ≤ b
    · rw [if_pos g] at hK ⊢
      omega
    · rw [if_neg g] at hK ⊢
      omega
  rw [hd]
  have HKD := hide hKd
  have HKN := hide hKn
  have HK := hide hK
  obtain ⟨⟨tv, ev, hbx, h2, h3, _, _⟩, _, _, _⟩ := h
  obtain ⟨ta, tc, rfl, hfr, htc, htm⟩ := h2.slice
  obtain ⟨ea, ec, rfl, hec, hem⟩ := h3.slice
  rw [List.length_map, List.length_map] at hbx
  rw [List.length_map] at htc hec
  have c0 := (three_cells hbx).1
  have wb : IntKind.i64.wrap (b + 1) = b + 1 := IntWalk.i64_in _ (by omega)
  have HBX := hide hbx
  have H2 := hide h2
  have H3 := hide h3
  clear hbx h2 h3 hfr hK hd hKd hKn
  obtain ⟨TS, hTS⟩ : ∃ TS, (rs.drop d).map (·.1) = TS := ⟨_, rfl⟩
  obtain ⟨ES, hES⟩ : ∃ ES, (rs.drop d).map (·.2) = ES := ⟨_, rfl⟩
  rw [hTS, hES]
  have HTS := hide hTS
  have HES := hide hES
  clear hTS hES
  go_enter Try.func22, Try.ntmps22
  go_upto_region 1 with fail
  go_cut [6] (fun v6 wc => v6 = .int .i64 K ∧ wc = w)
  case first =>
    go_wp2_with fail
    all_goals go_meet
    all_goals exact ⟨by rw [← unhide HK]; first | (rw [if_pos (by omega)]) | (rw [if_neg (by omega)]) | (congr 1; split <;> omega), rfl⟩
  case rest =>
    obtain ⟨rfl, hw⟩ := hcut
    replace hw := hw.symm
    subst hw
    go_wp2_with fail
    refine (unhide LA).mono ?_
    rintro e w1 ⟨rfl, b1⟩
    have B1 := hide b1
    clear b1 LA c0
    by_cases hLK : L < K
    · obtain rfl : [] = TS := by rw [← unhide HTS, unhide HKN hLK]; rfl
      obtain rfl : [] = ES := by rw [← unhide HES, unhide HKN hLK]; rfl
      go_wp2
      go_ret2
      exact ⟨_, _, rfl, Ir.nil _ _, XRow.nil _ _, unhide B1⟩
    · obtain ⟨hk1, hk2⟩ := unhide HKD (by omega)
      obtain ⟨gt, rfl⟩ := (unhide H2).block (by rw [List.length_map]; omega)
      obtain ⟨r0, hr0⟩ : ∃ r0, (rs.map (·.2))[0]? = some r0 := ⟨_, List.getElem?_eq_getElem (by rw [List.length_map]; omega)⟩
      obtain ⟨ge, -, -, rfl, -⟩ := (unhide H3).at hr0
      have hlk : ¬ K > L := by omega
      have IT := hide (fun (Y : World) (hY : Below w.heap.size w Y) => ((unhide H2).from d).below hY)
      have XT := hide (fun (Y : World) (hY : Below w.heap.size w Y) => ((unhide H3).from d).below hY)
      rw [← List.map_drop] at IT XT
      have hTS := unhide HTS
      have hES := unhide HES
      obtain ⟨n, hn⟩ : ∃ n, rs.length = n := ⟨_, rfl⟩
      have HTL : Hid (TS.length = n - d ∧ ES.length = n - d) := by
        rw [← hTS, ← hES, ← hn]; show _ ∧ _; simp
      rw [hTS] at IT
      rw [hES] at XT
      rw [hn] at htc hec hk2 hn1
      have SX := hide (fun (Y : World) (hY : Below w.heap.size w Y) => three_cells (Below.stay hY (show w.heap[p]? = some (.cells #[.int .i64 b, .slice (some ⟨gt, 0, none⟩) n tc, .slice (some ⟨ge, 0, none⟩) n ec] 32 (0, 0)) by rw [← hn]; exact unhide HBX)))
      have S0 := unhide SX w1.drew ((unhide B1).drew)
      have EZ := B1
      have wk1 : IntKind.i64.wrap (K - b) = (d : Int) + 1 := by rw [IntWalk.i64_in _ (by omega)]; omega
      have wk2 : IntKind.i64.wrap (d : Int) = (d : Int) := IntWalk.i64_in _ (by omega)
      have g1 : (0 : Int) ≤ (d : Int) := by omega
      have g2 : (d : Int) ≤ (n : Int) := by omega
      have g3 : (n : Int) ≤ (tc : Int) := by omega
      have g4 : (n : Int) ≤ (ec : Int) := by omega
      have g5 : ¬ tc = d := by omega
      have g6 : ¬ ec = d := by omega
      have m6 : n - d ≤ 1000000 := by omega
      clear hTS hES HTS HES hn hr0 HK HKN HKD
      go_upto_region 4 with fail
      go_cut [4, 5] (fun v4 v5 wc => Ir w.heap.size wc v4 TS ∧ XRow base wc v5 ES ∧ Below w.heap.size w wc)
      case first =>
        go_region_held3 (fun Y => Y.cell? ⟨p, 0, none⟩ = some (.int .i64 b) ∧ Y.cell? ⟨p, 1, none⟩ = some (.slice (some ⟨gt, 0, none⟩) n tc) ∧ Y.cell? ⟨p, 2, none⟩ = some (.slice (some ⟨ge, 0, none⟩) n ec)) (first | with_reducible exact S0 | with_reducible exact unhide SX _ ((unhide EZ).alloc (unhide EZ).size _).drew | with_reducible exact unhide SX _ (((unhide EZ).alloc (unhide EZ).size _).alloc ((unhide EZ).alloc (unhide EZ).size _).size _).drew | with_reducible exact unhide SX _ (unhide EZ) | with_reducible exact unhide SX _ ((unhide EZ).alloc (unhide EZ).size _) | with_reducible exact unhide SX _ (((unhide EZ).alloc (unhide EZ).size _).alloc ((unhide EZ).alloc (unhide EZ).size _).size _) | fail)
          (first
            | (with_reducible refine step_appI (.tmp 18) (.tmp 30) (by with_unfolding_all rfl) (by with_unfolding_all rfl) ?_
               first
                 | (have E1 := (emp_1 (t := 3) (unhide EZ)).drew
                    with_reducible refine wp_catIE E1 (.tmp 18) (.tmp 30) (by with_unfolding_all rfl) (by with_unfolding_all rfl) (some ⟨gt, d, none⟩) (n - d) (tc - d) TS (by with_unfolding_all rfl) ((unhide HTL).1) (unhide IT _ E1.bl) (m6) ?_
                    intro v1 z1 hR1 hg1
                    have HO := hide (E1.entsFar ((unhide H5).belowX ((Below.refl _ _).alloc (Nat.le_refl _) _) (Nat.le_trans hbase (unhide EZ).size)) hbase hg1)
                    clear H5
                    have H5 := HO
                    clear HO
                    obtain ⟨a1, c1, rfl, -⟩ := hR1.slice
                    have EN := hide (E1.grown hg1)
                    have H4 := hide hR1
                    clear E1 hR1 hg1 EZ
                    have EZ := EN
                    clear EN)
                 | (have E1 := (emp_1 (t := 3) (unhide EZ))
                    with_reducible refine wp_catIE E1 (.tmp 18) (.tmp 30) (by with_unfolding_all rfl) (by with_unfolding_all rfl) (some ⟨gt, d, none⟩) (n - d) (tc - d) TS (by with_unfolding_all rfl) ((unhide HTL).1) (unhide IT _ E1.bl) (m6) ?_
                    intro v1 z1 hR1 hg1
                    have HO := hide (E1.entsFar ((unhide H5).belowX ((Below.refl _ _).alloc (Nat.le_refl _) _) (Nat.le_trans hbase (unhide EZ).size)) hbase hg1)
                    clear H5
                    have H5 := HO
                    clear HO
                    obtain ⟨a1, c1, rfl, -⟩ := hR1.slice
                    have EN := hide (E1.grown hg1)
                    have H4 := hide hR1
                    clear E1 hR1 hg1 EZ
                    have EZ := EN
                    clear EN)
                 | (have E1 := (emp_1 (t := 3) (unhide EZ)).drew
                    with_reducible refine wp_catIE E1 (.tmp 18) (.tmp 30) (by with_unfolding_all rfl) (by with_unfolding_all rfl) (some ⟨gt, d, none⟩) (n - d) (tc - d) TS (by with_unfolding_all rfl) ((unhide HTL).1) (unhide IT _ E1.bl) (m6) ?_
                    intro v1 z1 hR1 hg1
                    obtain ⟨a1, c1, rfl, -⟩ := hR1.slice
                    have EN := hide (E1.grown hg1)
                    have H4 := hide hR1
                    clear E1 hR1 hg1 EZ
                    have EZ := EN
                    clear EN)
                 | (have E1 := (emp_1 (t := 3) (unhide EZ))
                    with_reducible refine wp_catIE E1 (.tmp 18) (.tmp 30) (by with_unfolding_all rfl) (by with_unfolding_all rfl) (some ⟨gt, d, none⟩) (n - d) (tc - d) TS (by with_unfolding_all rfl) ((unhide HTL).1) (unhide IT _ E1.bl) (m6) ?_
                    intro v1 z1 hR1 hg1
                    obtain ⟨a1, c1, rfl, -⟩ := hR1.slice
                    have EN := hide (E1.grown hg1)
                    have H4 := hide hR1
                    clear E1 hR1 hg1 EZ
                    have EZ := EN
                    clear EN)
                 | (have E1 := (emp_2 (t := 3) (unhide EZ) (.cells #[] 60)).drew
                    with_reducible refine wp_catIE E1 (.tmp 18) (.tmp 30) (by with_unfolding_all rfl) (by with_unfolding_all rfl) (some ⟨gt, d, none⟩) (n - d) (tc - d) TS (by with_unfolding_all rfl) ((unhide HTL).1) (unhide IT _ E1.bl) (m6) ?_
                    intro v1 z1 hR1 hg1
                    have KE := hide (E1.far (emp_3 (t := 60) (unhide EZ) (.cells #[] 3)).drew (by decide) hg1)
                    obtain ⟨a1, c1, rfl, -⟩ := hR1.slice
                    have EN := hide (E1.grown hg1)
                    have H4 := hide hR1
                    clear E1 hR1 hg1 EZ
                    have EZ := EN
                    clear EN)
                 | (have E1 := (emp_3 (t := 3) (unhide EZ) (.cells #[] 60)).drew
                    with_reducible refine wp_catIE E1 (.tmp 18) (.tmp 30) (by with_unfolding_all rfl) (by with_unfolding_all rfl) (some ⟨gt, d, none⟩) (n - d) (tc - d) TS (by with_unfolding_all rfl) ((unhide HTL).1) (unhide IT _ E1.bl) (m6) ?_
                    intro v1 z1 hR1 hg1
                    have KE := hide (E1.far (emp_2 (t := 60) (unhide EZ) (.cells #[] 3)).drew (by decide) hg1)
                    obtain ⟨a1, c1, rfl, -⟩ := hR1.slice
                    have EN := hide (E1.grown hg1)
                    have H4 := hide hR1
                    clear E1 hR1 hg1 EZ
                    have EZ := EN
                    clear EN)
                 | (have E1 := (emp_2 (t := 3) (unhide EZ) (.cells #[] 60))
                    with_reducible refine wp_catIE E1 (.tmp 18) (.tmp 30) (by with_unfolding_all rfl) (by with_unfolding_all rfl) (some ⟨gt, d, none⟩) (n - d) (tc - d) TS (by with_unfolding_all rfl) ((unhide HTL).1) (unhide IT _ E1.bl) (m6) ?_
                    intro v1 z1 hR1 hg1
                    have KE := hide (E1.far (emp_3 (t := 60) (unhide EZ) (.cells #[] 3)) (by decide) hg1)
                    obtain ⟨a1, c1, rfl, -⟩ := hR1.slice
                    have EN := hide (E1.grown hg1)
                    have H4 := hide hR1
                    clear E1 hR1 hg1 EZ
                    have EZ := EN
                    clear EN)
                 | (have E1 := (emp_3 (t := 3) (unhide EZ) (.cells #[] 60))
                    with_reducible refine wp_catIE E1 (.tmp 18) (.tmp 30) (by with_unfolding_all rfl) (by with_unfolding_all rfl) (some ⟨gt, d, none⟩) (n - d) (tc - d) TS (by with_unfolding_all rfl) ((unhide HTL).1) (unhide IT _ E1.bl) (m6) ?_
                    intro v1 z1 hR1 hg1
                    have KE := hide (E1.far (emp_2 (t := 60) (unhide EZ) (.cells #[] 3)) (by decide) hg1)
                    obtain ⟨a1, c1, rfl, -⟩ := hR1.slice
                    have EN := hide (E1.grown hg1)
                    have H4 := hide hR1
                    clear E1 hR1 hg1 EZ
                    have EZ := EN
                    clear EN)
                 | (have E1 := unhide KI
                    with_reducible refine wp_catIE E1 (.tmp 18) (.tmp 30) (by with_unfolding_all rfl) (by with_unfolding_all rfl) (some ⟨gt, d, none⟩) (n - d) (tc - d) TS (by with_unfolding_all rfl) ((unhide HTL).1) (unhide IT _ E1.bl) (m6) ?_
                    intro v1 z1 hR1 hg1
                    have HO := hide (E1.entsFar (unhide H5) hbase hg1)
                    clear H5
                    have H5 := HO
                    clear HO
                    obtain ⟨a1, c1, rfl, -⟩ := hR1.slice
                    have EN := hide (E1.grown hg1)
                    have H4 := hide hR1
                    clear E1 hR1 hg1 EZ
                    have EZ := EN
                    clear EN)
                 | fail)
            | (with_reducible refine step_appE (.tmp 32) (.tmp 44) (by with_unfolding_all rfl) (by with_unfolding_all rfl) ?_
               first
                 | (have E1 := (emp_1 (t := 60) (unhide EZ)).drew
                    with_reducible refine wp_catEE E1 hbase (.tmp 32) (.tmp 44) (by with_unfolding_all rfl) (by with_unfolding_all rfl) (some ⟨ge, d * 6, none⟩) (n - d) (ec - d) ES (by with_unfolding_all rfl) ((unhide HTL).2) (unhide XT _ E1.bl) (m6) ?_
                    intro v2 z2 hR2 hg2
                    have HO := hide (E1.intsFar ((unhide H4).below ((Below.refl _ _).alloc (Nat.le_refl _) _)) hg2)
                    clear H4
                    have H4 := HO
                    clear HO
                    obtain ⟨a2, c2, rfl, -⟩ := hR2.slice
                    have EN := hide (E1.grown hg2)
                    have H5 := hide hR2
                    clear E1 hR2 hg2 EZ
                    have EZ := EN
                    clear EN)
                 | (have E1 := (emp_1 (t := 60) (unhide EZ))
                    with_reducible refine wp_catEE E1 hbase (.tmp 32) (.tmp 44) (by with_unfolding_all rfl) (by with_unfolding_all rfl) (some ⟨ge, d * 6, none⟩) (n - d) (ec - d) ES (by with_unfolding_all rfl) ((unhide HTL).2) (unhide XT _ E1.bl) (m6) ?_
                    intro v2 z2 hR2 hg2
                    have HO := hide (E1.intsFar ((unhide H4).below ((Below.refl _ _).alloc (Nat.le_refl _) _)) hg2)
                    clear H4
                    have H4 := HO
                    clear HO
                    obtain ⟨a2, c2, rfl, -⟩ := hR2.slice
                    have EN := hide (E1.grown hg2)
                    have H5 := hide hR2
                    clear E1 hR2 hg2 EZ
                    have EZ := EN
                    clear EN)
                 | (have E1 := (emp_1 (t := 60) (unhide EZ)).drew
                    with_reducible refine wp_catEE E1 hbase (.tmp 32) (.tmp 44) (by with_unfolding_all rfl) (by with_unfolding_all rfl) (some ⟨ge, d * 6, none⟩) (n - d) (ec - d) ES (by with_unfolding_all rfl) ((unhide HTL).2) (unhide XT _ E1.bl) (m6) ?_
                    intro v2 z2 hR2 hg2
                    obtain ⟨a2, c2, rfl, -⟩ := hR2.slice
                    have EN := hide (E1.grown hg2)
                    have H5 := hide hR2
                    clear E1 hR2 hg2 EZ
                    have EZ := EN
                    clear EN)
                 | (have E1 := (emp_1 (t := 60) (unhide EZ))
                    with_reducible refine wp_catEE E1 hbase (.tmp 32) (.tmp 44) (by with_unfolding_all rfl) (by with_unfolding_all rfl) (some ⟨ge, d * 6, none⟩) (n - d) (ec - d) ES (by with_unfolding_all rfl) ((unhide HTL).2) (unhide XT _ E1.bl) (m6) ?_
                    intro v2 z2 hR2 hg2
                    obtain ⟨a2, c2, rfl, -⟩ := hR2.slice
                    have EN := hide (E1.grown hg2)
                    have H5 := hide hR2
                    clear E1 hR2 hg2 EZ
                    have EZ := EN
                    clear EN)
                 | (have E1 := (emp_2 (t := 60) (unhide EZ) (.cells #[] 3)).drew
                    with_reducible refine wp_catEE E1 hbase (.tmp 32) (.tmp 44) (by with_unfolding_all rfl) (by with_unfolding_all rfl) (some ⟨ge, d * 6, none⟩) (n - d) (ec - d) ES (by with_unfolding_all rfl) ((unhide HTL).2) (unhide XT _ E1.bl) (m6) ?_
                    intro v2 z2 hR2 hg2
                    have KI := hide (E1.far (emp_3 (t := 3) (unhide EZ) (.cells #[] 60)).drew (by decide) hg2)
                    obtain ⟨a2, c2, rfl, -⟩ := hR2.slice
                    have EN := hide (E1.grown hg2)
                    have H5 := hide hR2
                    clear E1 hR2 hg2 EZ
                    have EZ := EN
                    clear EN)
                 | (have E1 := (emp_3 (t := 60) (unhide EZ) (.cells #[] 3)).drew
                    with_reducible refine wp_catEE E1 hbase (.tmp 32) (.tmp 44) (by with_unfolding_all rfl) (by with_unfolding_all rfl) (some ⟨ge, d * 6, none⟩) (n - d) (ec - d) ES (by with_unfolding_all rfl) ((unhide HTL).2) (unhide XT _ E1.bl) (m6) ?_
                    intro v2 z2 hR2 hg2
                    have KI := hide (E1.far (emp_2 (t := 3) (unhide EZ) (.cells #[] 60)).drew (by decide) hg2)
                    obtain ⟨a2, c2, rfl, -⟩ := hR2.slice
                    have EN := hide (E1.grown hg2)
                    have H5 := hide hR2
                    clear E1 hR2 hg2 EZ
                    have EZ := EN
                    clear EN)
                 | (have E1 := (emp_2 (t := 60) (unhide EZ) (.cells #[] 3))
                    with_reducible refine wp_catEE E1 hbase (.tmp 32) (.tmp 44) (by with_unfolding_all rfl) (by with_unfolding_all rfl) (some ⟨ge, d * 6, none⟩) (n - d) (ec - d) ES (by with_unfolding_all rfl) ((unhide HTL).2) (unhide XT _ E1.bl) (m6) ?_
                    intro v2 z2 hR2 hg2
                    have KI := hide (E1.far (emp_3 (t := 3) (unhide EZ) (.cells #[] 60)) (by decide) hg2)
                    obtain ⟨a2, c2, rfl, -⟩ := hR2.slice
                    have EN := hide (E1.grown hg2)
                    have H5 := hide hR2
                    clear E1 hR2 hg2 EZ
                    have EZ := EN
                    clear EN)
                 | (have E1 := (emp_3 (t := 60) (unhide EZ) (.cells #[] 3))
                    with_reducible refine wp_catEE E1 hbase (.tmp 32) (.tmp 44) (by with_unfolding_all rfl) (by with_unfolding_all rfl) (some ⟨ge, d * 6, none⟩) (n - d) (ec - d) ES (by with_unfolding_all rfl) ((unhide HTL).2) (unhide XT _ E1.bl) (m6) ?_
                    intro v2 z2 hR2 hg2
                    have KI := hide (E1.far (emp_2 (t := 3) (unhide EZ) (.cells #[] 60)) (by decide) hg2)
                    obtain ⟨a2, c2, rfl, -⟩ := hR2.slice
                    have EN := hide (E1.grown hg2)
                    have H5 := hide hR2
                    clear E1 hR2 hg2 EZ
                    have EZ := EN
                    clear EN)
                 | (have E1 := unhide KE
                    with_reducible refine wp_catEE E1 hbase (.tmp 32) (.tmp 44) (by with_unfolding_all rfl) (by with_unfolding_all rfl) (some ⟨ge, d * 6, none⟩) (n - d) (ec - d) ES (by with_unfolding_all rfl) ((unhide HTL).2) (unhide XT _ E1.bl) (m6) ?_
                    intro v2 z2 hR2 hg2
                    have HO := hide (E1.intsFar (unhide H4) hg2)
                    clear H4
                    have H4 := HO
                    clear HO
                    obtain ⟨a2, c2, rfl, -⟩ := hR2.slice
                    have EN := hide (E1.grown hg2)
                    have H5 := hide hR2
                    clear E1 hR2 hg2 EZ
                    have EZ := EN
                    clear EN)
                 | fail)
            | fail)
        all_goals go_wp2_with fail
        all_goals go_meet
        all_goals exact ⟨unhide H4, (unhide H5).1, unhide EZ⟩
      case rest =>
        obtain ⟨q1, q2, q3⟩ := hcut
        have Q1 := hide (And.intro q1 (And.intro q2 q3))
        clear q1 q2 q3
        go_wp2
        go_ret2
        exact ⟨_, _, rfl, unhide Q1⟩
end Go.Proofs.Ytmgdkbpbmngibaa
namespace Go.Proofs.Ytmgdkbpbmngibaa
open Go.RowKit Go.Maps

set_option maxHeartbeats 1000000 in
theorem xnewer_any {base : Nat} {D : Nat → Prop} {w : World} {p : Nat} {b : Int} {rs : List Rw} (h : Xs base D w p b rs) (hf : Fit b rs) (last term : Int) :
    Calls Try.prog 25 #[.pointer (some ⟨p, 0, none⟩), .int .i64 last, .int .i64 term] w fun e w' => e = .returned (.bool (newerOf b rs last term)) ∧ Below w.heap.size w w' := by
  have L0 := hide (xlast_any h hf)
  have LA := hide (fun Y (hY : Below w.heap.size w Y) => xlast_any (h.below hY) hf)
  have TE := hide (fun Y (hY : Below w.heap.size w Y) => xterm_any (h.below hY) hf (b + (rs.length : Int)))
  unfold newerOf
  obtain ⟨m, hm⟩ : ∃ m, termOf b rs (b + (rs.length : Int)) = m := ⟨_, rfl⟩
  obtain ⟨L, hL⟩ : ∃ L, b + (rs.length : Int) = L := ⟨_, rfl⟩
  rw [hm] at TE ⊢
  rw [hL] at TE L0 LA ⊢
  obtain ⟨R, hR⟩ : ∃ R, decide (m < term ∨ term = m ∧ L ≤ last) = R := ⟨_, rfl⟩
  rw [hR]
  have HR := hide hR
  clear hm hL h hf hR
  go_enter Try.func25, Try.ntmps25
  go_wp2_with fail
  refine (unhide L0).mono ?_
  rintro e w1 ⟨rfl, b1⟩
  have T1 := hide (unhide TE _ b1)
  have B1 := hide b1
  clear b1 L0 TE
  go_wp2_with fail
  refine (unhide T1).mono ?_
  rintro e w2 ⟨rfl, b2⟩
  have B2 := hide (below_far (unhide B1) b2)
  have L2 := hide (unhide LA _ (unhide B2))
  clear b2 T1 LA B1
  by_cases h1 : m < term
  · obtain rfl : true = R := by rw [← unhide HR]; exact (decide_eq_true (Or.inl h1)).symm
    clear HR
    go_wp2
    go_ret
    exact ⟨rfl, unhide B2⟩
  · by_cases h2 : term = m
    · subst h2
      go_wp2_with fail
      refine (unhide L2).mono ?_
      rintro e w3 ⟨rfl, b3⟩
      have B3 := hide (below_far (unhide B2) b3)
      clear b3 L2
      by_cases h3 : L ≤ last
      · obtain rfl : true = R := by rw [← unhide HR]; exact (decide_eq_true (Or.inr ⟨by simp, h3⟩)).symm
        clear HR
        go_wp2
        go_ret
        exact ⟨rfl, unhide B3⟩
      · obtain rfl : false = R := by rw [← unhide HR]; exact (decide_eq_false (by omega)).symm
        clear HR
        have h4 : decide (L ≤ last) = false := decide_eq_false h3
        go_wp2
        go_ret
        exact ⟨rfl, unhide B3⟩
    · obtain rfl : false = R := by rw [← unhide HR]; exact (decide_eq_false (by omega)).symm
      clear HR
      have h5 : decide (m < term) = false := decide_eq_false h1
      clear h1
      have h4 : (term == m) = false := by rw [beq_eq_false_iff_ne]; exact h2
      clear h2
      go_wp2
      go_ret
      exact ⟨rfl, unhide B2⟩

end Go.Proofs.Ytmgdkbpbmngibaa
