/- The reference goes as the link does: take and Take whole. -/
import Derived.Test.YtkanolmcaoecgaaLRTakeN
import Derived.Test.YtkanolmcaoecgaaLSpec
namespace Go.Proofs.Ytkanolmcaoecgaa
open Go.RowKit

/-- the reference's peers say what the link's two maps say. -/
def Agree (sent : Int → Nat) (heard : Int → Hd) (ps : List Pr) (c : Nat) : Prop :=
  ps.length ≤ c ∧ ∀ x : Int, sent x = (look ps x).sent ∧ (heard x).life = (look ps x).life ∧ (heard x).top = (look ps x).most ∧ Sees (heard x) (fun m => decide (m ∈ (look ps x).ns)) ∧ (look ps x).ns.length ≤ c
theorem Agree.none : Agree (fun _ => 0) (fun _ => Hd.none) [] 0 := ⟨Nat.le_refl _, fun x => ⟨rfl, rfl, rfl, by show Sees Hd.none (fun m => decide (m ∈ ([] : List Nat))); have e : (fun m => decide (m ∈ ([] : List Nat))) = fun _ => false := by { funext m; simp }; rw [e]; exact sees_none 0, Nat.le_refl _⟩⟩
theorem Agree.wide {sent : Int → Nat} {heard : Int → Hd} {ps : List Pr} {c : Nat} (h : Agree sent heard ps c) : Agree sent heard ps (c + 1) :=
  ⟨Nat.le_succ_of_le h.1, fun x => ⟨(h.2 x).1, (h.2 x).2.1, (h.2 x).2.2.1, (h.2 x).2.2.2.1, Nat.le_succ_of_le (h.2 x).2.2.2.2⟩⟩
theorem Agree.grow {sent : Int → Nat} {heard : Int → Hd} {ps : List Pr} {c : Nat} (h : Agree sent heard ps c) (id : Int) : Agree sent heard (more ps id) (c + 1) :=
  ⟨by have := (more_length id ps).1; have := h.1; omega, fun x => by rw [look_more]; exact ⟨(h.2 x).1, (h.2 x).2.1, (h.2 x).2.2.1, (h.2 x).2.2.2.1, Nat.le_succ_of_le (h.2 x).2.2.2.2⟩⟩
theorem Agree.stamp {sent : Int → Nat} {heard : Int → Hd} {ps : List Pr} {c : Nat} (h : Agree sent heard ps c) (id : Int) : Agree (up sent id (sent id + 1)) heard ((more ps id).set (pos ps id) { look ps id with sent := (look ps id).sent + 1 }) (c + 1) := by
  refine ⟨by rw [List.length_set]; exact (h.grow id).1, fun x => ?_⟩
  rw [look_set id (r := { look ps id with sent := (look ps id).sent + 1 }) (look_id id ps) x]
  unfold up
  by_cases e : x = id
  · rw [if_pos e, if_pos e, e]
    obtain ⟨h1, h2, h3, h4, h5⟩ := h.2 id
    exact ⟨by rw [h1], h2, h3, h4, Nat.le_succ_of_le h5⟩
  · rw [if_neg e, if_neg e]
    obtain ⟨h1, h2, h3, h4, h5⟩ := h.2 x
    exact ⟨h1, h2, h3, h4, Nat.le_succ_of_le h5⟩
theorem Agree.put {sent : Int → Nat} {heard : Int → Hd} {ps : List Pr} {c : Nat} (h : Agree sent heard ps c) (id : Int) {g : Hd} {r : Pr} (hr : r.id = id) (hs : r.sent = (look ps id).sent) (hl : g.life = r.life) (ht : g.top = r.most) (hsee : Sees g (fun m => decide (m ∈ r.ns))) (hn : r.ns.length ≤ c + 1) :
    Agree sent (upH heard id g) ((more ps id).set (pos ps id) r) (c + 1) := by
  refine ⟨by rw [List.length_set]; exact (h.grow id).1, fun x => ?_⟩
  rw [look_set id hr x]
  unfold upH
  by_cases e : x = id
  · rw [if_pos e, if_pos e, e]
    exact ⟨by rw [(h.2 id).1, hs], hl, ht, hsee, hn⟩
  · rw [if_neg e, if_neg e]
    obtain ⟨h1, h2, h3, h4, h5⟩ := h.2 x
    exact ⟨h1, h2, h3, h4, Nat.le_succ_of_le h5⟩

/-- take of the reference, as the link's own. -/
theorem takeX_any {base x : Nat} {v : Value} {life : Int} {ref : Nat} {ps : List Pr} {sent : Int → Nat} {heard : Int → Hd} {c : Nat} (id l n e : Int) (w : World) (hl : wf64 l) (hn : wf64 n) (h : Xk base w x v life ref ps) (ha : Agree sent heard ps c) (hok : (heard id).ok) (hc : c ≤ 900) (hbase : base ≤ w.heap.size) (he : takeE (heard id) l n = e) :
    Calls Try.prog 22 #[.pointer (some ⟨x, 0, none⟩), .int .i64 id, .int .i64 l, .int .i64 n] w fun r w' => r = .returned (.int .i64 e) ∧ (∃ v' ps', Xk base w' x v' life ref ps' ∧ Agree sent (if e = 0 then upH heard id ((heard id).taking l.toNat n.toNat) else heard) ps' (c + 1)) ∧ Only base [30, 55] w w' := by
  have lr := wf_range hl
  have nr := wf_range hn
  obtain ⟨a1, a2, a3, a4, a5⟩ := ha.2 id
  have al := ha.1
  subst he
  unfold takeE
  by_cases h1 : l < 1 ∨ n < 1
  · rw [if_pos h1, if_neg (by decide)]
    refine (takeX_arg id l n w h1).mono ?_
    rintro r w' ⟨rfl, rfl⟩
    exact ⟨rfl, ⟨v, ps, h, ha.wide⟩, Only.refl _ _ _⟩
  · rw [if_neg h1]
    obtain ⟨N, rfl⟩ : ∃ N : Nat, n = (N : Int) := ⟨n.toNat, by omega⟩
    obtain ⟨L, rfl⟩ : ∃ L : Nat, l = (L : Int) := ⟨l.toNat, by omega⟩
    rw [Int.toNat_natCast, Int.toNat_natCast]
    have b1 : (look ps id).life < 9223372036854775808 := by rw [← a2]; exact hok.1
    have b2 : (look ps id).most < 9223372036854775808 := by rw [← a3]; exact hok.2.1
    by_cases h2 : (L : Int) < ((heard id).life : Int)
    · rw [if_pos h2, if_neg (by decide)]
      refine (takeX_stale id L N w h (by omega) hbase _ rfl b1 b2 (by omega) (by omega) (by omega) (by omega) (by omega)).mono ?_
      rintro r w' ⟨rfl, ⟨v', x'⟩, o'⟩
      exact ⟨rfl, ⟨v', _, x', ha.grow id⟩, o'⟩
    · rw [if_neg h2]
      by_cases h3 : (L : Int) = ((heard id).life : Int)
      · have hL : (look ps id).life = L := by omega
        have hkn := sees_knows a4 N
        cases hk : (heard id).knows N with
        | true =>
          rw [if_pos ⟨h3, rfl⟩, if_neg (by decide)]
          rw [hk] at hkn
          refine (takeX_known id L N w h (by omega) hbase _ rfl b1 b2 (by omega) (by omega) (by omega) (by omega) hL ?_ (by omega)).mono ?_
          · rw [← a3]
            rcases Bool.or_eq_true_iff.1 hkn.symm with h | h
            · exact Or.inl (of_decide_eq_true h)
            · exact Or.inr (of_decide_eq_true h)
          · rintro r w' ⟨rfl, ⟨v', x'⟩, o'⟩
            exact ⟨rfl, ⟨v', _, x', ha.grow id⟩, o'⟩
        | false =>
          rw [if_neg (by simp), if_pos rfl]
          rw [hk] at hkn
          obtain ⟨f1, f2⟩ := Bool.or_eq_false_iff.1 hkn.symm
          have f1 := of_decide_eq_false f1
          have f2 := of_decide_eq_false f2
          refine (takeX_same id L N w h (by omega) hbase _ rfl b1 b2 (by omega) (by omega) (by omega) (by omega) hL (by rw [← a3]; exact f1) f2 (by omega)).mono ?_
          rintro r w' ⟨rfl, ⟨v', nv', x'⟩, o'⟩
          refine ⟨rfl, ⟨v', _, x', ha.put id rfl rfl ?_ ?_ ?_ ?_⟩, o'⟩
          · rw [taking_life, if_neg (by omega)]; show (heard id).life = L; omega
          · rw [taking_top, if_neg (by omega)]; show max (heard id).top N = max (look ps id).most N; rw [a3]
          · have := sees_same a4 (l := L) (by omega) N (by omega)
            have e : (fun m => decide (m ∈ (look ps id).ns) || decide (m = N)) = fun m => decide (m ∈ (look ps id).ns ++ [N]) := by
              funext m; simp
            rw [e] at this; exact this
          · show ((look ps id).ns ++ [N]).length ≤ c + 1
            rw [List.length_append]; simp; omega
      · rw [if_neg (fun z => h3 z.1), if_pos rfl]
        refine (takeX_newer id L N w h (by omega) hbase _ rfl b1 b2 (by omega) (by omega) (by omega) (by omega) (by omega)).mono ?_
        rintro r w' ⟨rfl, ⟨v', nv', x'⟩, o'⟩
        refine ⟨rfl, ⟨v', _, x', ha.put id rfl rfl ?_ ?_ ?_ ?_⟩, o'⟩
        · rw [taking_life, if_pos (by omega)]
        · rw [taking_top, if_pos (by omega)]; show N = max 0 N; omega
        · have := sees_newer (h := heard id) (l := L) (by omega) N
          have e : (fun m => decide (m = N)) = fun m => decide (m ∈ [N]) := by funext m; simp
          rw [e] at this; exact this
        · show [N].length ≤ c + 1
          simp

set_option maxRecDepth 20000 in
set_option maxHeartbeats 1000000 in
theorem TakeX_any {base x : Nat} {v : Value} {life : Int} {ref : Nat} {ps : List Pr} {sent : Int → Nat} {heard : Int → Hd} {c : Nat} (id l n e : Int) (w : World) (hl : wf64 l) (hn : wf64 n) (h : Xk base w x v life ref ps) (ha : Agree sent heard ps c) (hok : (heard id).ok) (hc : c ≤ 900) (hrf : ref ≤ 1000000) (hbase : base ≤ w.heap.size) (he : takeE (heard id) l n = e) :
    Calls Try.prog 14 #[.pointer (some ⟨x, 0, none⟩), .int .i64 id, .int .i64 l, .int .i64 n] w fun r w' => r = .returned (.int .i64 e) ∧ (∃ v' ps', Xk base w' x v' life (if e = 0 then ref else ref + 1) ps' ∧ Agree sent (if e = 0 then upH heard id ((heard id).taking l.toNat n.toNat) else heard) ps' (c + 1)) ∧ Only base [30, 55] w w' := by
  have TK := takeX_any id l n e w hl hn h ha hok hc hbase he
  obtain ⟨hd', hhd⟩ : ∃ hd', (if e = 0 then upH heard id ((heard id).taking l.toNat n.toNat) else heard) = hd' := ⟨_, rfl⟩
  rw [hhd] at TK ⊢
  have HTK := hide TK
  clear hl hn h ha hok hc he TK hhd
  by_cases h0 : e = 0
  · subst h0
    have hif : (if (0 : Int) = 0 then ref else ref + 1) = ref := if_pos rfl
    rw [hif]
    clear hif
    go_enter Try.func14, Try.ntmps14
    go_wp2_with fail
    refine (unhide HTK).mono ?_
    rintro r w1 ⟨rfl, f1, f2⟩
    have F1 := hide f1
    have F2 := hide f2
    clear f1 f2 HTK
    go_wp2
    go_ret
    exact ⟨rfl, unhide F1, unhide F2⟩
  · rw [if_neg h0]
    have hb : (e != 0) = true := by simp [h0]
    obtain ⟨m, hm⟩ : ∃ m, ref + 1 = m := ⟨_, rfl⟩
    rw [hm]
    have em : (ref : Int) + 1 = (m : Int) := by omega
    have wrm : IntKind.i64.wrap (m : Int) = (m : Int) := by
      simp only [IntKind.wrap, IntKind.bits, IntKind.signed]
      simp
      omega
    clear h0 hm
    go_enter Try.func14, Try.ntmps14
    go_wp2_with fail
    refine (unhide HTK).mono ?_
    rintro r w1 ⟨rfl, ⟨v', ps', ⟨q1, q2, q3, q4⟩, ag⟩, o1⟩
    have c1 : w1.cell? ⟨x, 1, none⟩ = some (.int .i64 (ref : Int)) := bcell q2 rfl
    have f1 : w1.frozen? ⟨x, 1, none⟩ = false := free_of_block q2
    obtain ⟨W2, hW2⟩ : ∃ W2, w1.setCell ⟨x, 1, none⟩ (.int .i64 (m : Int)) = W2 := ⟨_, rfl⟩
    have k2 : ∀ b, b ≠ x → W2.heap[b]? = w1.heap[b]? := fun b hb => by rw [← hW2]; exact Below.heap_setCell w1 ⟨x, 1, none⟩ _ b hb
    have x2 : W2.heap[x]? = some (.cells #[.int .i64 life, .int .i64 (m : Int), v'] 30 (0, 0)) := by rw [← hW2, setCell_block q2]; rfl
    have FIN : Hid ((∃ v' ps', Xk base W2 x v' life m ps' ∧ Agree sent hd' ps' (c + 1)) ∧ Only base [30, 55] w W2) := by
      refine ⟨⟨v', ps', ⟨q1, x2, q3.kept fun b cs hb => k2 b (fun e => by subst e; rw [q2] at hb; cases hb), fun r hr => (q4 r hr).kept fun b cs hb => k2 b (fun e => by subst e; rw [q2] at hb; cases hb)⟩, ag⟩, ?_⟩
      rw [← hW2]; exact o1.setCell (p := ⟨x, 1, none⟩) q1 _ q2 (by simp)
    have HW2 := hide hW2
    clear q1 q2 q3 q4 ag o1 hW2 k2 x2 HTK
    go_upto_region 4 with fail
    rw [unhide HW2]
    go_wp2
    go_ret
    exact ⟨rfl, unhide FIN⟩
end Go.Proofs.Ytkanolmcaoecgaa
