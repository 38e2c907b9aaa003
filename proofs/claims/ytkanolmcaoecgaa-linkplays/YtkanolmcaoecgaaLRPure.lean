/- The reference's peers, as a plain list. -/
import Derived.Test.YtkanolmcaoecgaaLPure
namespace Go.Proofs.Ytkanolmcaoecgaa

/-- what the reference holds of one peer; nv: where its numbers lie. -/
structure Pr where
  id : Int
  life : Nat
  sent : Nat
  most : Nat
  ns : List Nat
  nv : Value
def Pr.cells (p : Pr) : List Value := [.int .i64 p.id, .int .i64 (p.life : Int), .int .i64 (p.sent : Int), .int .i64 (p.most : Int), p.nv]
def fresh (id : Int) : Pr := ⟨id, 0, 0, 0, [], .slice none 0 0⟩
def pos : List Pr → Int → Nat
  | [], _ => 0
  | p :: ps, id => if p.id = id then 0 else pos ps id + 1
def look : List Pr → Int → Pr
  | [], id => fresh id
  | p :: ps, id => if p.id = id then p else look ps id
def more : List Pr → Int → List Pr
  | [], id => [fresh id]
  | p :: ps, id => if p.id = id then p :: ps else p :: more ps id
theorem look_id (id : Int) : ∀ ps, (look ps id).id = id
  | [] => rfl
  | p :: ps => by
    unfold look; split
    · assumption
    · exact look_id id ps
theorem pos_le (id : Int) : ∀ ps, pos ps id ≤ ps.length
  | [] => Nat.le_refl _
  | p :: ps => by
    unfold pos; split
    · exact Nat.zero_le _
    · have := pos_le id ps; simp; omega
theorem more_get (id : Int) : ∀ ps, (more ps id)[pos ps id]? = some (look ps id)
  | [] => rfl
  | p :: ps => by
    unfold more pos look
    by_cases h : p.id = id
    · rw [if_pos h, if_pos h, if_pos h]; rfl
    · rw [if_neg h, if_neg h, if_neg h, List.getElem?_cons_succ]; exact more_get id ps
theorem more_found (id : Int) : ∀ ps, pos ps id < ps.length → more ps id = ps
  | [], h => by simp at h
  | p :: ps, h => by
    unfold pos at h; unfold more
    by_cases e : p.id = id
    · rw [if_pos e]
    · rw [if_neg e] at h ⊢; rw [more_found id ps (by simp at h; omega)]
theorem more_new (id : Int) : ∀ ps, pos ps id = ps.length → more ps id = ps ++ [fresh id]
  | [], _ => rfl
  | p :: ps, h => by
    unfold pos at h; unfold more
    by_cases e : p.id = id
    · rw [if_pos e] at h; simp at h
    · rw [if_neg e] at h ⊢; rw [more_new id ps (by simpa using h)]; rfl
theorem more_length (id : Int) (ps : List Pr) : (more ps id).length ≤ ps.length + 1 ∧ pos ps id < (more ps id).length := by
  have h := pos_le id ps
  by_cases e : pos ps id < ps.length
  · rw [more_found id ps e]; omega
  · rw [more_new id ps (by omega)]; simp; omega
theorem look_set (id : Int) {r : Pr} (hr : r.id = id) (x : Int) : ∀ ps, look ((more ps id).set (pos ps id) r) x = if x = id then r else look ps x
  | [] => by
    unfold more pos look
    by_cases e : x = id
    · rw [if_pos e]; simp [hr, e]
    · rw [if_neg e]
      simp only [List.set_cons_zero]
      rw [if_neg (by rw [hr]; exact fun h => e h.symm)]; rfl
  | p :: ps => by
    unfold more pos
    by_cases h : p.id = id
    · rw [if_pos h, if_pos h, List.set_cons_zero]
      unfold look
      by_cases e : x = id
      · rw [if_pos e, if_pos (by rw [hr, e])]
      · rw [if_neg e, if_neg (by rw [hr]; exact fun h => e h.symm), if_neg (by rw [h]; exact fun h => e h.symm)]
    · rw [if_neg h, if_neg h, List.set_cons_succ]
      have ih := look_set id hr x ps
      unfold look
      by_cases e : x = id
      · rw [if_neg (by rw [e]; exact h), ih, if_pos e, if_pos e]
      · rw [ih, if_neg e, if_neg e]
theorem look_more (id x : Int) : ∀ ps, look (more ps id) x = look ps x
  | [] => by
    unfold more look
    by_cases e : id = x
    · rw [show (fresh id).id = id from rfl, if_pos e, e]
    · rw [show (fresh id).id = id from rfl, if_neg e]; rfl
  | p :: ps => by
    unfold more
    by_cases h : p.id = id
    · rw [if_pos h]
    · rw [if_neg h]; unfold look; rw [look_more id x ps]
/-- where a walk along the list ends. -/
theorem pos_at (id : Int) : ∀ (ps : List Pr) (k : Nat) (r : Pr), (∀ j q, j < k → ps[j]? = some q → q.id ≠ id) → ps[k]? = some r → r.id = id → pos ps id = k ∧ look ps id = r
  | p :: ps, 0, r, _, h, e => by
    simp at h; subst h
    unfold pos look; rw [if_pos e, if_pos e]; exact ⟨rfl, rfl⟩
  | p :: ps, k + 1, r, hn, h, e => by
    have h0 : p.id ≠ id := hn 0 p (by omega) rfl
    have ih := pos_at id ps k r (fun j q hj hq => hn (j + 1) q (by omega) (by simpa using hq)) (by simpa using h) e
    unfold pos look; rw [if_neg h0, if_neg h0, ih.1, ih.2]; exact ⟨rfl, rfl⟩
theorem pos_end (id : Int) : ∀ ps : List Pr, (∀ j q, j < ps.length → ps[j]? = some q → q.id ≠ id) → pos ps id = ps.length ∧ look ps id = fresh id
  | [], _ => ⟨rfl, rfl⟩
  | p :: ps, hn => by
    have h0 : p.id ≠ id := hn 0 p (by simp) rfl
    have ih := pos_end id ps (fun j q hj hq => hn (j + 1) q (by simp; omega) (by simpa using hq))
    unfold pos look; rw [if_neg h0, if_neg h0, ih.1, ih.2]; exact ⟨rfl, rfl⟩
end Go.Proofs.Ytkanolmcaoecgaa
