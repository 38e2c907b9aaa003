/- take: a contract. -/
import Derived.Test.YtndpkpkijfplaaaGCall
namespace Go.Proofs.Ytndpkpkijfplaaa
open Go.RowKit Go.Maps
attribute [local go_sem ↓] Go.wp_at_zero Go.wp_at_succ

/-- an event as a value. -/
abbrev evv (v : Ev) (mo : Option Addr) (mc : Nat) (eo : Option Addr) (ec : Nat) : Array Value :=
  #[.int .i64 v.kind, .int .i64 v.client, .int .i64 v.seq, .int .i64 v.index, .int .i64 v.entry.kind, .int .i64 v.entry.client, .int .i64 v.entry.seq, .string v.entry.text, .slice mo v.entry.ms.length mc, .int .i64 v.entry.dest, .slice eo v.es.length ec]
/-- an event whose numbers are numbers, and that can be read. -/
structure EvA (A : World) (F : Nat → Prop) (v : Ev) (mo eo : Option Addr) : Prop where
  wf : wf64 v.client ∧ wf64 v.seq ∧ wf64 v.index
  entry : EnA A v.entry mo
  es : EsR F A eo v.es
  all : ∀ x ∈ v.es, En.wf x
  len : v.es.length ≤ 100000
/-- all three maps. -/
def three (a b d : Nat) (k : Nat) : Prop := k = a ∨ k = b ∨ k = d
theorem box11 {w : World} {B : Nat} {c0 c1 c2 c3 c4 c5 c6 c7 c8 c9 c10 : Value} {t : TypeId} {fr : Nat × Nat} (h : w.heap[B]? = some (.cells #[c0, c1, c2, c3, c4, c5, c6, c7, c8, c9, c10] t fr)) :
    w.cell? ⟨B, 0, none⟩ = some c0 ∧ w.cell? ⟨B, 1, none⟩ = some c1 ∧ w.cell? ⟨B, 2, none⟩ = some c2 ∧ w.cell? ⟨B, 3, none⟩ = some c3 ∧ w.cell? ⟨B, 4, none⟩ = some c4 ∧ w.cell? ⟨B, 5, none⟩ = some c5 ∧ w.cell? ⟨B, 6, none⟩ = some c6 ∧ w.cell? ⟨B, 7, none⟩ = some c7 ∧ w.cell? ⟨B, 8, none⟩ = some c8 ∧ w.cell? ⟨B, 9, none⟩ = some c9 ∧ w.cell? ⟨B, 10, none⟩ = some c10 :=
  ⟨(cell_of_block h).trans rfl, (cell_of_block h).trans rfl, (cell_of_block h).trans rfl, (cell_of_block h).trans rfl, (cell_of_block h).trans rfl, (cell_of_block h).trans rfl, (cell_of_block h).trans rfl, (cell_of_block h).trans rfl, (cell_of_block h).trans rfl, (cell_of_block h).trans rfl, (cell_of_block h).trans rfl⟩
theorem claims_wf {es : List En} (h : ∀ x ∈ es, En.wf x) (hl : es.length ≤ 100000) : ∀ x ∈ claimsFrom 0 es, Cl.wf x := fun x hx => by
  obtain ⟨i, hi, e⟩ := List.mem_iff_getElem.1 hx
  rw [claims_len] at hi
  have he : es[i]? = some es[i] := List.getElem?_eq_getElem hi
  have h2 := claims_at es 0 i _ he
  rw [Nat.zero_add] at h2
  rw [List.getElem?_eq_getElem (by rw [claims_len]; exact hi), e] at h2
  cases h2
  have h3 := h _ (List.mem_of_getElem? he)
  exact ⟨h3.1, h3.2, wf_range (by simp only; omega)⟩
set_option maxRecDepth 20000 in
set_option maxHeartbeats 4000000 in
/-- take over any event. -/
theorem take_any {A w : World} {p a b d n : Nat} {S : Kn} (h : KnA A w p a b d n S) (hA : Below A.heap.size A w) {F : Nat → Prop} {v : Ev} {mo eo : Option Addr} (mc ec : Nat) (he : EvA A F v mo eo) (hn : n + 2 * v.es.length + 2 ≤ 100000000) :
    Calls Try.prog 20 #[.pointer (some ⟨p, 0, none⟩), .agg (evv v mo mc eo ec)] w fun x w' => (S.take v = none ∧ x = .returned (.bool false) ∨ ∃ S', S.take v = some S' ∧ x = .returned (.bool true) ∧ KnA A w' p a b d (n + 2 * v.es.length + 2) S') ∧ Kp (three a b d) w w' := by
  obtain ⟨W, hW⟩ : ∃ W, w.alloc (.cells (evv v mo mc eo ec) 31) = W := ⟨_, rfl⟩
  have bW : Below w.heap.size w W := by rw [← hW]; exact (Below.refl _ w).alloc (Nat.le_refl _) _
  have xW : W.heap[w.heap.size]? = some (.cells (evv v mo mc eo ec) 31 (0, 0)) := by rw [← hW]; exact box_at _ _
  obtain ⟨B, hB⟩ : ∃ B, w.heap.size = B := ⟨_, rfl⟩
  rw [hB] at xW
  obtain ⟨V, hV⟩ : ∃ V, W.alloc (.cells #[.int .i64 v.client, .int .i64 v.seq] 62) = V := ⟨_, rfl⟩
  have bV : Below W.heap.size W V := by rw [← hV]; exact (Below.refl _ W).alloc (Nat.le_refl _) _
  have yV : V.heap[W.heap.size]? = some (.cells #[.int .i64 v.client, .int .i64 v.seq] 62 (0, 0)) := by rw [← hV]; exact box_at _ _
  obtain ⟨X, hX⟩ : ∃ X, V.alloc (.cells #[.int .i64 v.client, .int .i64 v.seq, .int .i64 v.index] 64) = X := ⟨_, rfl⟩
  have bX : Below V.heap.size V X := by rw [← hX]; exact (Below.refl _ V).alloc (Nat.le_refl _) _
  have zX : X.heap[V.heap.size]? = some (.cells #[.int .i64 v.client, .int .i64 v.seq, .int .i64 v.index] 64 (0, 0)) := by rw [← hX]; exact box_at _ _
  have bb := below_far bW (below_far bV bX)
  have kX := h.below bb
  have hAX : Below A.heap.size A X := hA.trans (bb.mono hA.size)
  have xV := Below.stay bV xW
  have xX := Below.stay bX xV
  have yX := Below.stay bX yV
  obtain ⟨c0, c1, c2, c3, c4, c5, c6, c7, c8, c9, c10⟩ := box11 xW
  obtain ⟨v0, v1, v2, v3, v4, v5, v6, v7, v8, v9, v10⟩ := box11 xV
  obtain ⟨x0, x1, x2, x3, x4, x5, x6, x7, x8, x9, x10⟩ := box11 xX
  have d0 : V.cell? ⟨W.heap.size, 0, none⟩ = some (.int .i64 v.client) := (cell_of_block yV).trans rfl
  have d1 : V.cell? ⟨W.heap.size, 1, none⟩ = some (.int .i64 v.seq) := (cell_of_block yV).trans rfl
  have e0 : X.cell? ⟨W.heap.size, 0, none⟩ = some (.int .i64 v.client) := (cell_of_block yX).trans rfl
  have e1 : X.cell? ⟨W.heap.size, 1, none⟩ = some (.int .i64 v.seq) := (cell_of_block yX).trans rfl
  have HW := hide hW
  have HV := hide hV
  have HX := hide hX
  have BB := hide bb
  have KX := hide kX
  have HAX := hide hAX
  have EV := hide he
  have HN := hide hn
  have ZX := hide zX
  have XX := hide xX
  clear bW xW bV yV bX zX bb kX hAX xV xX yX h hA he hW hV hX hn
  by_cases k1 : v.kind = 1
  · have hT : S.take v = S.call v.client v.seq v.entry := by unfold Kn.take; rw [if_pos k1]
    have CA := hide (call_any (unhide KX) (unhide HAX) (unhide EV).wf.1 (unhide EV).wf.2.1 mc (unhide EV).entry (by have := unhide HN; omega))
    rw [hT]
    clear hT
    rw [k1] at c0 v0 x0
    go_enter Try.func20, Try.ntmps20
    go_upto_region 1 with fail
    rw [unhide HW]
    go_upto_region 2 with fail
    rw [unhide HV]
    go_upto_region 3 with fail
    rw [unhide HX]
    go_wp2_with fail
    refine (unhide CA).mono ?_
    rintro z w1 ⟨hz, hk⟩
    have FK : Hid (Kp (three a b d) w w1) := ((Kp.of_below (unhide BB)).trans hk (fun _ _ x => Or.inl x))
    rcases hz with ⟨h0, rfl⟩ | ⟨S', h0, rfl, h1⟩
    · have H0 := hide h0
      clear h0 hk
      go_wp2
      go_ret
      exact ⟨Or.inl ⟨unhide H0, rfl⟩, unhide FK⟩
    · have H0 := hide h0
      have H1 := hide (h1.mono (c' := n + 2 * v.es.length + 2) (by omega))
      clear h0 hk h1
      go_wp2
      go_ret
      exact ⟨Or.inr ⟨S', unhide H0, rfl, unhide H1⟩, unhide FK⟩
  · by_cases k3 : v.kind = 3
    · rw [k3] at c0 v0 x0
      by_cases hi : v.index = (v.es.length : Int)
      · have MR0 := (mayBeRead_any (unhide KX) (unhide HAX) eo v.es.length ec v.es rfl (by have := (unhide EV).len; omega) ((unhide EV).es.below (unhide HAX)) (unhide EV).all)
        have q1 : (v.index != (v.es.length : Int)) = false := by rw [bne_eq_false_iff_eq]; exact hi
        by_cases hr : mayRead S v.es = true
        · rw [hr] at MR0
          have hT : S.take v = S.settle (claimsFrom 0 v.es) := by
            unfold Kn.take
            rw [if_neg k1, if_pos k3, if_pos ⟨hi, hr⟩]
          have MR := hide MR0
          rw [hT]
          clear hT MR0 hr hi
          go_enter Try.func20, Try.ntmps20
          go_upto_region 1 with fail
          rw [unhide HW]
          go_upto_region 2 with fail
          rw [unhide HV]
          go_upto_region 3 with fail
          rw [unhide HX]
          go_wp2_with fail
          refine (unhide MR).mono ?_
          rintro z w1 ⟨rfl, b1⟩
          have x1' := Below.stay b1 (unhide XX)
          obtain ⟨f0, f1, f2, f3, f4, f5, f6, f7, f8, f9, f10⟩ := box11 x1'
          have CL := hide (claimsOf_any eo v.es.length ec v.es rfl (unhide EV).len w1 (((unhide EV).es.below (unhide HAX)).below b1))
          have B1 := hide b1
          clear b1 x1'
          go_wp2_with fail
          refine (unhide CL).mono ?_
          rintro z w2 ⟨g, rfl, hcl, b2⟩
          have bx2 := below_far (unhide B1) b2
          have SE := hide (settle_any ((unhide KX).below bx2) (some ⟨g, 0, none⟩) v.es.length v.es.length (claimsFrom 0 v.es) (claims_len _ _) hcl (claims_wf (unhide EV).all (unhide EV).len) (by have := unhide HN; omega))
          have B2 := hide bx2
          clear hcl b2 bx2 f0 f1 f2 f3 f4 f5 f6 f7 f8 f9 f10
          go_wp2_with fail
          refine (unhide SE).mono ?_
          rintro z w3 ⟨hz, hk⟩
          have FK : Hid (Kp (three a b d) w w3) := ((Kp.of_below (below_far (unhide BB) (unhide B2))).trans hk (fun _ _ x => Or.inr x))
          rcases hz with ⟨h0, rfl⟩ | ⟨S', h0, rfl, h1⟩
          · have H0 := hide h0
            clear h0 hk
            go_wp2
            go_ret
            exact ⟨Or.inl ⟨unhide H0, rfl⟩, unhide FK⟩
          · have H0 := hide h0
            have H1 := hide (h1.mono (c' := n + 2 * v.es.length + 2) (by omega))
            clear h0 hk h1
            go_wp2
            go_ret
            exact ⟨Or.inr ⟨S', unhide H0, rfl, unhide H1⟩, unhide FK⟩
        · have hT : S.take v = none := by
            unfold Kn.take
            rw [if_neg k1, if_pos k3, if_neg (fun h => hr h.2)]
          rw [Bool.not_eq_true] at hr
          rw [hr] at MR0
          have MR := hide MR0
          have HT := hide hT
          clear hT MR0 hr hi
          go_enter Try.func20, Try.ntmps20
          go_upto_region 1 with fail
          rw [unhide HW]
          go_upto_region 2 with fail
          rw [unhide HV]
          go_upto_region 3 with fail
          rw [unhide HX]
          go_wp2_with fail
          refine (unhide MR).mono ?_
          rintro z w1 ⟨rfl, b1⟩
          have FK := hide (Kp.of_below (D := three a b d) (below_far (unhide BB) b1))
          clear b1
          go_wp2
          go_ret
          exact ⟨Or.inl ⟨unhide HT, rfl⟩, unhide FK⟩
      · have hT : S.take v = none := by
          unfold Kn.take
          rw [if_neg k1, if_pos k3, if_neg (fun h => hi h.1)]
        have q1 : (v.index != (v.es.length : Int)) = true := by rw [bne_iff_ne]; exact hi
        have HT := hide hT
        have FK := hide (Kp.of_below (D := three a b d) (unhide BB))
        clear hT
        go_enter Try.func20, Try.ntmps20
        go_upto_region 1 with fail
        rw [unhide HW]
        go_upto_region 2 with fail
        rw [unhide HV]
        go_upto_region 3 with fail
        rw [unhide HX]
        go_wp2
        go_ret
        exact ⟨Or.inl ⟨unhide HT, rfl⟩, unhide FK⟩
    · by_cases k2 : v.kind = 2
      · rw [k2] at c0 v0 x0
        have hT : S.take v = S.settle [(v.client, v.seq, v.index)] := by unfold Kn.take; rw [if_neg k1, if_neg k3, if_pos k2]
        have hcl : ClR X (some ⟨V.heap.size, 0, none⟩) [(v.client, v.seq, v.index)] := fun i x hx => by
          have hz := unhide ZX
          cases i with
          | zero =>
            simp only [List.getElem?_cons_zero, Option.some.injEq] at hx
            subst hx
            exact ⟨_, 0, rfl, (cell_of_block hz).trans rfl, (cell_of_block hz).trans rfl, (cell_of_block hz).trans rfl⟩
          | succ i => simp at hx
        have SE := hide (settle_any (unhide KX) (some ⟨V.heap.size, 0, none⟩) 1 1 [(v.client, v.seq, v.index)] rfl hcl (fun x hx => by simp only [List.mem_singleton] at hx; subst hx; exact (unhide EV).wf) (by have := unhide HN; omega))
        rw [hT]
        clear hT hcl
        go_enter Try.func20, Try.ntmps20
        go_upto_region 1 with fail
        rw [unhide HW]
        go_upto_region 2 with fail
        rw [unhide HV]
        go_upto_region 3 with fail
        rw [unhide HX]
        go_wp2_with fail
        refine (unhide SE).mono ?_
        rintro z w1 ⟨hz, hk⟩
        have FK : Hid (Kp (three a b d) w w1) := ((Kp.of_below (unhide BB)).trans hk (fun _ _ x => Or.inr x))
        rcases hz with ⟨h0, rfl⟩ | ⟨S', h0, rfl, h1⟩
        · have H0 := hide h0
          clear h0 hk
          go_wp2
          go_ret
          exact ⟨Or.inl ⟨unhide H0, rfl⟩, unhide FK⟩
        · have H0 := hide h0
          have H1 := hide (h1.mono (c' := n + 2 * v.es.length + 2) (by omega))
          clear h0 hk h1
          go_wp2
          go_ret
          exact ⟨Or.inr ⟨S', unhide H0, rfl, unhide H1⟩, unhide FK⟩
      · have hT : S.take v = none := by
          unfold Kn.take
          rw [if_neg k1, if_neg k3, if_neg k2]
        have q1 : (v.kind == 1) = false := by rw [beq_eq_false_iff_ne]; exact k1
        have q2 : (v.kind == 2) = false := by rw [beq_eq_false_iff_ne]; exact k2
        have q3 : (v.kind == 3) = false := by rw [beq_eq_false_iff_ne]; exact k3
        have HT := hide hT
        have FK := hide (Kp.of_below (D := three a b d) (unhide BB))
        clear hT
        go_enter Try.func20, Try.ntmps20
        go_upto_region 1 with fail
        rw [unhide HW]
        go_upto_region 2 with fail
        rw [unhide HV]
        go_upto_region 3 with fail
        rw [unhide HX]
        go_wp2
        go_ret
        exact ⟨Or.inl ⟨unhide HT, rfl⟩, unhide FK⟩
end Go.Proofs.Ytndpkpkijfplaaa
