/- Votes: what both say is the same. -/
import Derived.Test.YtjcidihcmbenhaaYVRef
namespace Go.Proofs.Ytjcidihcmbenhaa
open Go.RowKit Go.Maps

def Ag (f : Int → Option Int) (yes no' : List Int) : Prop :=
  (∀ id, saidOf f id = if yes.contains id = true then 1 else if no'.contains id = true then 2 else 0) ∧ ∀ id, yes.contains id = true → no'.contains id = false
theorem Ag.nil : Ag (fun _ => none) [] [] := ⟨fun _ => rfl, fun _ h => by simp at h⟩
theorem Ag.zero {f : Int → Option Int} {yes no' : List Int} (h : Ag f yes no') (x : Int) : (saidOf f x == 0) = (!yes.contains x && !no'.contains x) := by
  rw [h.1 x]
  cases yes.contains x <;> cases no'.contains x <;> rfl
theorem Ag.takes {f : Int → Option Int} {yes no' : List Int} (h : Ag f yes no') (old new : List Int) (x : Int) : takes old new f x = rtakes old new yes no' x := by
  unfold Go.Proofs.Ytjcidihcmbenhaa.takes rtakes; rw [h.zero]
theorem contains_snoc (l : List Int) (x y : Int) : (l ++ [x]).contains y = (l.contains y || (x == y)) := by
  rw [Bool.eq_iff_iff, List.contains_iff_mem, List.mem_append, List.mem_singleton, Bool.or_eq_true, List.contains_iff_mem, beq_iff_eq, eq_comm (a := x)]
theorem ryes_none {old new yes no' : List Int} {x : Int} {y : Bool} (h : rtakes old new yes no' x = false) : ryes old new yes no' x y = yes := if_neg (by rintro ⟨e, _⟩; rw [h] at e; cases e)
theorem rno_none {old new yes no' : List Int} {x : Int} {y : Bool} (h : rtakes old new yes no' x = false) : rno old new yes no' x y = no' := if_neg (by rintro ⟨e, _⟩; rw [h] at e; cases e)
theorem ryes_yes {old new yes no' : List Int} {x : Int} (h : rtakes old new yes no' x = true) : ryes old new yes no' x true = yes ++ [x] := if_pos ⟨h, rfl⟩
theorem rno_yes {old new yes no' : List Int} {x : Int} : rno old new yes no' x true = no' := if_neg (by rintro ⟨_, e⟩; cases e)
theorem ryes_no {old new yes no' : List Int} {x : Int} : ryes old new yes no' x false = yes := if_neg (by rintro ⟨_, e⟩; cases e)
theorem rno_no {old new yes no' : List Int} {x : Int} (h : rtakes old new yes no' x = true) : rno old new yes no' x false = no' ++ [x] := if_pos ⟨h, rfl⟩
theorem Ag.voted {f : Int → Option Int} {yes no' : List Int} (h : Ag f yes no') (old new : List Int) (x : Int) (y : Bool) : Ag (voted old new f x y) (ryes old new yes no' x y) (rno old new yes no' x y) := by
  obtain ⟨r, hr⟩ : ∃ r, rtakes old new yes no' x = r := ⟨_, rfl⟩
  have ht := h.takes old new x
  rw [hr] at ht
  cases r
  · rw [voted_no ht, ryes_none hr, rno_none hr]; exact h
  · rw [voted_yes ht]
    have hn : yes.contains x = false ∧ no'.contains x = false := by
      have hr' := hr
      unfold rtakes at hr'
      rw [Bool.and_eq_true, Bool.and_eq_true, Bool.not_eq_true', Bool.not_eq_true'] at hr'
      exact hr'.2
    cases y
    · rw [ryes_no, rno_no hr]
      refine ⟨fun id => ?_, fun id hy => ?_⟩
      · rw [contains_snoc]
        unfold saidOf upd
        by_cases e : id = x
        · subst e; rw [if_pos rfl, hn.1, hn.2]; simp
        · have e' : (x == id) = false := by rw [beq_eq_false_iff_ne]; exact fun h => e h.symm
          rw [if_neg e, e', Bool.or_false]; exact h.1 id
      · rw [contains_snoc, h.2 id hy, Bool.false_or, beq_eq_false_iff_ne]
        rintro rfl
        rw [hn.1] at hy; cases hy
    · rw [ryes_yes hr, rno_yes]
      refine ⟨fun id => ?_, fun id hy => ?_⟩
      · rw [contains_snoc]
        unfold saidOf upd
        by_cases e : id = x
        · subst e; rw [if_pos rfl, hn.1]; simp
        · have e' : (x == id) = false := by rw [beq_eq_false_iff_ne]; exact fun h => e h.symm
          rw [if_neg e, e', Bool.or_false]; exact h.1 id
      · rw [contains_snoc, Bool.or_eq_true] at hy
        rcases hy with hy | hy
        · exact h.2 id hy
        · rw [beq_iff_eq] at hy; subst hy; exact hn.2
theorem Ag.won {f : Int → Option Int} {yes no' : List Int} (h : Ag f yes no') (old new : List Int) : quorumOf old new yes = wonOf old new f :=
  quorum_by fun z _ => by
    rw [h.1 z]
    cases yes.contains z <;> cases no'.contains z <;> rfl
theorem Ag.left {f : Int → Option Int} {yes no' : List Int} (h : Ag f yes no') {old new : List Int} (ho : Up old) (hn : Up new) : quorumOf old new ((allOf (memB old new) 9).filter fun id => !no'.contains id) = leftOf old new f := by
  refine quorum_by fun z hz => ?_
  have hm : z ∈ allOf (memB old new) 9 := by rw [← members_same ho hn]; exact mem_M.2 hz
  have e : ((allOf (memB old new) 9).filter fun id => !no'.contains id).contains z = !no'.contains z := by
    rw [Bool.eq_iff_iff, List.contains_iff_mem, List.mem_filter]
    exact ⟨fun h => h.2, fun h => ⟨hm, h⟩⟩
  rw [e, h.1 z]
  have h2 := h.2 z
  revert h2
  cases yes.contains z <;> cases no'.contains z <;> simp
theorem won_left {old new : List Int} {f : Int → Option Int} (h : wonOf old new f = true) : leftOf old new f = true :=
  quorumBy_mono (fun z _ e => by rw [e]; rfl) h
theorem left_won {old new : List Int} {f : Int → Option Int} (h : ∀ z, z ∈ old ∨ z ∈ new → saidOf f z ≠ 0) : leftOf old new f = wonOf old new f :=
  quorumBy_congr fun z hz => by rw [beq_eq_false_iff_ne.2 (h z hz), Bool.or_false]
theorem ryes_len (old new yes no' : List Int) (x : Int) (y : Bool) : (ryes old new yes no' x y).length ≤ yes.length + 1 := by
  unfold ryes; split <;> simp
theorem rno_len (old new yes no' : List Int) (x : Int) (y : Bool) : (rno old new yes no' x y).length ≤ no'.length + 1 := by
  unfold rno; split <;> simp
theorem said_stays {old new : List Int} {f : Int → Option Int} {x : Int} {y : Bool} {z : Int} (h : saidOf f z ≠ 0) : saidOf (voted old new f x y) z ≠ 0 := by
  by_cases ht : takes old new f x = true
  · rw [voted_yes ht]
    unfold saidOf upd
    by_cases e : z = x
    · rw [if_pos e]; cases y <;> simp
    · rw [if_neg e]; exact h
  · rw [voted_no (by simpa using ht)]; exact h
theorem said_now {old new : List Int} {f : Int → Option Int} {x : Int} {y : Bool} (h : inOf old new x = true) : saidOf (voted old new f x y) x ≠ 0 := by
  by_cases ht : takes old new f x = true
  · rw [voted_yes ht]
    unfold saidOf upd
    rw [if_pos rfl]; cases y <;> simp
  · rw [voted_no (by simpa using ht)]
    unfold takes at ht
    rw [h, Bool.true_and, beq_iff_eq] at ht; exact ht
/-! ### one stays while the other is changed -/
theorem Xv.but {base : Nat} {w w' : World} {q b : Nat} {es : Array MapEntry} {cl : Nat} {old new yes no' : List Int} (h : Xv base w q old new yes no') (hb : w.heap[b]? = some (.map es cl)) (hk : ∀ k, k < w.heap.size → k ≠ b → w'.heap[k]? = w.heap[k]?) : Xv base w' q old new yes no' := by
  obtain ⟨ao, n1, c1, an, n2, c2, yv, nv, h1, h2, h3, h4, h5, h6, h7, h8, h9⟩ := h
  have own : ∀ {v : Value} {ys : List Int}, Ir base w v ys → Ir base w' v ys := fun {v ys} hi => own_kept hi fun k e => hk k (hi.lt k e).2 (fun e' => by
    obtain ⟨_, cur, fr, hc⟩ := own_tag hi k e
    rw [e', hb] at hc; cases hc)
  exact ⟨ao, n1, c1, an, n2, c2, yv, nv, (hk q (heap_lt h1) (fun e => by rw [e, hb] at h1; cases h1)).trans h1, h2, h3, h4.but hb hk, h5.but hb hk, h6, h7, ⟨own h8.1, own h8.2.1, h8.2.2⟩, h9⟩
theorem Vt.lowq {B : Nat} {w w' : World} {p b q : Nat} {old new : List Int} {f : Int → Option Int} {c : Nat} {old' new' yes no' : List Int} (h : Vt B w p b old new f c) (hx : Xv B w q old' new' yes no') (hk : ∀ k, k < B → k ≠ q → w'.heap[k]? = w.heap[k]?) : Vt B w' p b old new f c := by
  obtain ⟨ao, no, co, an, nn, cn, h1, h2, h3, h4, h5, h6, h7, h8, h9, h10⟩ := h
  obtain ⟨bo, m1, d1, bn, m2, d2, yv, nv, g1, -, -, -, -, -, -, g8, -⟩ := hx
  obtain ⟨es, cl, hb⟩ := h8.isMap
  have e1 := hk p h9 (fun e => by
    rw [e, g1] at h1
    simp at h1)
  have e2 := hk b h10 (fun e => by rw [e, g1] at hb; cases hb)
  exact ⟨ao, no, co, an, nn, cn, e1.trans h1, h2, h3, h4.lowq h6 g1 ⟨_, _, _, rfl⟩ ⟨_, _, _, rfl⟩ g8.1.isSlice g8.2.1.isSlice hk, h5.lowq h7 g1 ⟨_, _, _, rfl⟩ ⟨_, _, _, rfl⟩ g8.1.isSlice g8.2.1.isSlice hk, h6, h7, h8.kept e2, h9, h10⟩
end Go.Proofs.Ytjcidihcmbenhaa
