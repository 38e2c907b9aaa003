/- settle: a contract. -/
import Derived.Test.YtndpkpkijfplaaaGStand
namespace Go.Proofs.Ytndpkpkijfplaaa
open Go.RowKit Go.Maps
attribute [local go_sem ↓] Go.wp_at_zero Go.wp_at_succ

abbrev Cl := Int × Int × Int
/-- claims in memory. -/
def ClR (w : World) (ao : Option Addr) (cs : List Cl) : Prop :=
  ∀ (i : Nat) (x : Cl), cs[i]? = some x → ∃ g off, ao = some ⟨g, off, none⟩ ∧ w.cell? ⟨g, off + i * 3, none⟩ = some (.int .i64 x.1) ∧ w.cell? ⟨g, off + i * 3 + 1, none⟩ = some (.int .i64 x.2.1) ∧ w.cell? ⟨g, off + i * 3 + 2, none⟩ = some (.int .i64 x.2.2)
def Cl.wf (x : Cl) : Prop := wf64 x.1 ∧ wf64 x.2.1 ∧ wf64 x.2.2
/-- the two maps that settle writes. -/
def two (b d : Nat) (k : Nat) : Prop := k = b ∨ k = d
theorem cell_notMap {w : World} {p : Addr} {u : Value} {es : Array MapEntry} {cl : Nat} {q : Nat} (h : w.cell? p = some u) (hq : w.heap[q]? = some (.map es cl)) : p.block ≠ q := fun e => by
  obtain ⟨bl, off, sub⟩ := p
  simp only at e
  subst e
  simp [World.cell?, hq] at h
theorem KnA.objs {A w : World} {p a b d n : Nat} {S : Kn} (h : KnA A w p a b d n S) : (∃ es cl, w.heap[a]? = some (.map es cl)) ∧ (∃ es cl, w.heap[b]? = some (.map es cl)) ∧ ∃ es cl, w.heap[d]? = some (.map es cl) := by
  obtain ⟨-, ⟨M1, m1, -⟩, ⟨M2, m2, -⟩, ⟨M3, m3, -⟩, -⟩ := h
  exact ⟨owns_obj m1, owns_obj m2, owns_obj m3⟩
theorem KnA.cell {A w w' : World} {p a b d n : Nat} {S : Kn} (h : KnA A w p a b d n S) (hk : Kp (two b d) w w') {x : Addr} {u : Value} (hx : w.cell? x = some u) : w'.cell? x = some u := by
  obtain ⟨-, ⟨e1, c1, h1⟩, ⟨e2, c2, h2⟩⟩ := h.objs
  refine hk.cell hx (fun e => ?_)
  rcases e with e | e
  · exact cell_notMap hx h1 e
  · exact cell_notMap hx h2 e
theorem KnA.far3 {A w : World} {p a b d n : Nat} {S : Kn} (h : KnA A w p a b d n S) : ∀ k, two b d k → A.heap.size ≤ k := fun k hk => by
  rcases hk with rfl | rfl
  · exact h.far.2.2.1
  · exact h.far.2.2.2.1
/-- where a request stands is written down. -/
theorem KnA.store_place {A w : World} {p a b d n : Nat} {S : Kn} (h : KnA A w p a b d n S) {c s l : Int} (hc : wf64 c) (hs : wf64 s) (hn : n < 1000000000) :
    ∃ w', (Instr.mapUpdate 57 (.map (some b)) (.agg #[.int .i64 c, .int .i64 s]) (.int .i64 l)).run Try.prog w = .ok () w' ∧ KnA A w' p a b d (n + 1) ⟨S.calls, upd2 S.place c s l, S.holder⟩ ∧ Kp (two b d) w w' := by
  obtain ⟨w', r1, r2, r3⟩ := h.place.store (v := l) hc hs hn
  have hne := h.ne
  obtain ⟨f1, f2, f3, f4, f5, f6, f7⟩ := h.far
  obtain ⟨⟨e1, c1, o1⟩, -, e3, c3, o3⟩ := h.objs
  refine ⟨w', r1, ⟨?_, (h.calls.stay ?_).mono (Nat.le_succ _), r2, (h.holder.stay ?_).mono (Nat.le_succ _), h.far⟩, (Kp.refl _ w).grown r3 (fun k _ e => by cases e; exact Or.inl rfl)⟩
  · exact (r3.block p (heap_lt h.box) (fun e => by cases e; exact hne.2.1 rfl)).trans h.box
  · exact r3.block a (heap_lt o1) (fun e => by cases e; exact f5 rfl)
  · exact r3.block d (heap_lt o3) (fun e => by cases e; exact f7 rfl)
theorem KnA.store_holder {A w : World} {p a b d n : Nat} {S : Kn} (h : KnA A w p a b d n S) {c s l : Int} (hl : wf64 l) (hn : n < 1000000000) :
    ∃ w', (Instr.mapUpdate 58 (.map (some d)) (.int .i64 l) (.agg #[.int .i64 c, .int .i64 s])).run Try.prog w = .ok () w' ∧ KnA A w' p a b d (n + 1) ⟨S.calls, S.place, upd1 S.holder l (c, s)⟩ ∧ Kp (two b d) w w' := by
  obtain ⟨w', r1, r2, r3⟩ := h.holder.store (a := c) (b := s) hl hn
  have hne := h.ne
  obtain ⟨f1, f2, f3, f4, f5, f6, f7⟩ := h.far
  obtain ⟨⟨e1, c1, o1⟩, ⟨e2, c2, o2⟩, -⟩ := h.objs
  refine ⟨w', r1, ⟨?_, (h.calls.stay ?_).mono (Nat.le_succ _), (h.place.stay ?_).mono (Nat.le_succ _), r2, h.far⟩, (Kp.refl _ w).grown r3 (fun k _ e => by cases e; exact Or.inr rfl)⟩
  · exact (r3.block p (heap_lt h.box) (fun e => by cases e; exact hne.2.2 rfl)).trans h.box
  · exact r3.block a (heap_lt o1) (fun e => by cases e; exact f6 rfl)
  · exact r3.block b (heap_lt o2) (fun e => by cases e; exact f7 rfl)
set_option maxRecDepth 20000 in
set_option maxHeartbeats 2000000 in
/-- settle over any claims. -/
theorem settle_any {A w : World} {p a b d n : Nat} {S : Kn} (h : KnA A w p a b d n S) (ao : Option Addr) (m cap : Nat) (cs : List Cl) (hm : cs.length = m) (hr : ClR w ao cs) (hw : ∀ x ∈ cs, Cl.wf x) (hn : n + 2 * m ≤ 100000000) :
    Calls Try.prog 30 #[.pointer (some ⟨p, 0, none⟩), .slice ao m cap] w fun x w' => (S.settle cs = none ∧ x = .returned (.bool false) ∨ ∃ S', S.settle cs = some S' ∧ x = .returned (.bool true) ∧ KnA A w' p a b d (n + 2 * m) S') ∧ Kp (two b d) w w' := by
  have HR := hide hr
  have HM := hide hm
  have HW := hide hw
  have HN := hide hn
  have HK := hide h
  have hm9 : m ≤ 100000000 := by omega
  clear hr hm hw h hn
  go_enter Try.func30, Try.ntmps30
  go_wp2_with fail
  go_loopw [9, 6] (fun i _ wr => ∃ (k : Nat) (S' : Kn), k ≤ m ∧ i = .int .i64 k ∧ S.settle (cs.take k) = some S' ∧ KnA A wr p a b d (n + 2 * k) S' ∧ Kp (two b d) w wr) (fun i _ _ => m - (intOf i).toNat)
  case atStart => exact ⟨0, S, Nat.zero_le _, rfl, rfl, unhide HK, Kp.refl _ w⟩
  case round =>
    obtain ⟨k, S', hk, rfl, hst, hkn, hkp⟩ := hrel
    have ST := hide hst
    have KN := hide hkn
    have KP := hide hkp
    clear hst hkn hkp
    by_cases hlt : k < m
    · obtain ⟨⟨c, s, l⟩, hx⟩ : ∃ x, cs[k]? = some x := ⟨_, List.getElem?_eq_getElem (by rw [unhide HM]; exact hlt)⟩
      obtain ⟨hc, hs, hl⟩ := unhide HW _ (List.mem_of_getElem? hx)
      obtain ⟨g, off, rfl, x0, x1, x2⟩ := unhide HR k _ hx
      simp only at hc hs hl x0 x1 x2
      replace x0 := (unhide HK).cell (unhide KP) x0
      replace x1 := (unhide HK).cell (unhide KP) x1
      replace x2 := (unhide HK).cell (unhide KP) x2
      have q : (k : Int) < m := by omega
      obtain ⟨W, hW⟩ : ∃ W, wr.alloc (.cells #[.int .i64 c, .int .i64 s, .int .i64 l] 64) = W := ⟨_, rfl⟩
      have bW : Below wr.heap.size wr W := by rw [← hW]; exact (Below.refl _ wr).alloc (Nat.le_refl _) _
      have xW : W.heap[wr.heap.size]? = some (.cells #[.int .i64 c, .int .i64 s, .int .i64 l] 64 (0, 0)) := by rw [← hW]; exact box_at _ _
      have kW := (unhide KN).below bW
      have y0 : W.cell? ⟨wr.heap.size, 0, none⟩ = some (.int .i64 c) := (cell_of_block xW).trans rfl
      have y1 : W.cell? ⟨wr.heap.size, 1, none⟩ = some (.int .i64 s) := (cell_of_block xW).trans rfl
      have y2 : W.cell? ⟨wr.heap.size, 2, none⟩ = some (.int .i64 l) := (cell_of_block xW).trans rfl
      have MS := hide (mayStand_any kW hc hs hl)
      have HWW := hide hW
      have BW := hide bW
      have XW := hide xW
      have KW := hide kW
      have WF : Hid (wf64 c ∧ wf64 s ∧ wf64 l) := ⟨hc, hs, hl⟩
      have HX := hide hx
      clear hW bW xW kW hc hs hl hx
      go_upto_region 4 with fail
      rw [unhide HWW]
      go_wp2_with fail
      refine (unhide MS).mono ?_
      rintro z w1 ⟨rfl, b1⟩
      have bb := below_far (unhide BW) b1
      have k1 := (unhide KN).below bb
      have x1' := Below.stay b1 (unhide XW)
      obtain ⟨hc, hs, hl⟩ := unhide WF
      by_cases hms : S'.mayStand c s l
      · rw [decide_eq_true hms]
        have bd1 : Below w1.heap.size w1 w1.drew := (Below.refl _ w1).drew
        obtain ⟨w2, u1, u2, u3⟩ := (k1.below bd1).store_place (l := l) hc hs (by have := unhide HN; omega)
        have bd2 : Below w2.heap.size w2 w2.drew := (Below.refl _ w2).drew
        obtain ⟨w3, v1, v2, v3⟩ := (u2.below bd2).store_holder (c := c) (s := s) hl (by have := unhide HN; omega)
        have e01 : (w1.drew.cell? ⟨p, 1, none⟩ = some (.map (some b)) ∧ w1.drew.cell? ⟨wr.heap.size, 0, none⟩ = some (.int .i64 c) ∧ w1.drew.cell? ⟨wr.heap.size, 1, none⟩ = some (.int .i64 s) ∧ w1.drew.cell? ⟨wr.heap.size, 2, none⟩ = some (.int .i64 l)) :=
          ⟨(cell_of_block (k1.below bd1).box).trans rfl, (cell_of_block (Below.stay bd1 x1')).trans rfl, (cell_of_block (Below.stay bd1 x1')).trans rfl, (cell_of_block (Below.stay bd1 x1')).trans rfl⟩
        have e02 : (w2.cell? ⟨p, 1, none⟩ = some (.map (some b)) ∧ w2.cell? ⟨wr.heap.size, 0, none⟩ = some (.int .i64 c) ∧ w2.cell? ⟨wr.heap.size, 1, none⟩ = some (.int .i64 s) ∧ w2.cell? ⟨wr.heap.size, 2, none⟩ = some (.int .i64 l)) :=
          ⟨(cell_of_block u2.box).trans rfl, (k1.below bd1).cell u3 e01.2.1, (k1.below bd1).cell u3 e01.2.2.1, (k1.below bd1).cell u3 e01.2.2.2⟩
        have e03 : (w2.drew.cell? ⟨p, 2, none⟩ = some (.map (some d)) ∧ w2.drew.cell? ⟨wr.heap.size, 0, none⟩ = some (.int .i64 c) ∧ w2.drew.cell? ⟨wr.heap.size, 1, none⟩ = some (.int .i64 s) ∧ w2.drew.cell? ⟨wr.heap.size, 2, none⟩ = some (.int .i64 l)) :=
          ⟨(cell_of_block (u2.below bd2).box).trans rfl, e02.2.1, e02.2.2.1, e02.2.2.2⟩
        have e04 : (w3.cell? ⟨p, 2, none⟩ = some (.map (some d)) ∧ w3.cell? ⟨wr.heap.size, 0, none⟩ = some (.int .i64 c) ∧ w3.cell? ⟨wr.heap.size, 1, none⟩ = some (.int .i64 s) ∧ w3.cell? ⟨wr.heap.size, 2, none⟩ = some (.int .i64 l)) :=
          ⟨(cell_of_block v2.box).trans rfl, (u2.below bd2).cell v3 e03.2.1, (u2.below bd2).cell v3 e03.2.2.1, (u2.below bd2).cell v3 e03.2.2.2⟩
        have E1 := hide e01
        have E2 := hide e02
        have E3 := hide e03
        have E4 := hide e04
        have FIN : Hid (S.settle (cs.take (k + 1)) = some (S'.stand c s l) ∧ KnA A w3 p a b d (n + 2 * (k + 1)) (S'.stand c s l) ∧ Kp (two b d) w w3) := by
          refine ⟨settle_take (unhide HX) (unhide ST) hms, ?_, ?_⟩
          · have h9 := v2
            rw [show n + 2 * k + 1 + 1 = n + 2 * (k + 1) by omega] at h9
            exact h9
          · exact ((((unhide KP).far bb).drew).trans u3 (fun _ _ x => x)).drew.trans v3 (fun _ _ x => x)
        clear hms k1 x1' bb b1 bd1 bd2 u2 u3 v2 v3 e01 e02 e03 e04 hc hs hl
        go_upto_region 6 with fail
        go_region_held3 (fun Y => Y.cell? ⟨p, 1, none⟩ = some (.map (some b)) ∧ Y.cell? ⟨wr.heap.size, 0, none⟩ = some (.int .i64 c) ∧ Y.cell? ⟨wr.heap.size, 1, none⟩ = some (.int .i64 s) ∧ Y.cell? ⟨wr.heap.size, 2, none⟩ = some (.int .i64 l))
          (first | exact unhide E1 | exact unhide E2 | fail)
          (first
          | fail
          | fail)
        go_upto_region 7 with fail
        go_region_held3 (fun Y => Y.cell? ⟨p, 2, none⟩ = some (.map (some d)) ∧ Y.cell? ⟨wr.heap.size, 0, none⟩ = some (.int .i64 c) ∧ Y.cell? ⟨wr.heap.size, 1, none⟩ = some (.int .i64 s) ∧ Y.cell? ⟨wr.heap.size, 2, none⟩ = some (.int .i64 l))
          (first | exact unhide E3 | exact unhide E4 | fail)
          (first
          | fail
          | fail)
        go_wp2
        go_roundw
        case rel => exact ⟨k + 1, _, by omega, by go_num, (unhide FIN).1, (unhide FIN).2.1, (unhide FIN).2.2⟩
        case measure => simp [intOf]; omega
      · rw [decide_eq_false hms]
        have FIN : Hid (S.settle cs = none ∧ Kp (two b d) w w1) := ⟨settle_none (unhide HX) (unhide ST) hms, (unhide KP).far bb⟩
        clear hms k1 x1' bb b1 hc hs hl
        go_wp2
        go_ret
        exact ⟨Or.inl ⟨(unhide FIN).1, rfl⟩, (unhide FIN).2⟩
    · obtain rfl : k = m := by omega
      have st := unhide ST
      rw [List.take_of_length_le (by rw [unhide HM]; exact Nat.le_refl _)] at st
      have ST' := hide st
      have q : ¬ (k : Int) < (k : Int) := by omega
      clear st
      go_wp2
      go_ret
      exact ⟨Or.inr ⟨S', unhide ST', rfl, unhide KN⟩, unhide KP⟩
end Go.Proofs.Ytndpkpkijfplaaa
