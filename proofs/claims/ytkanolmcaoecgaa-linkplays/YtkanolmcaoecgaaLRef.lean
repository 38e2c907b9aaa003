/- The reference's link in memory; its at, LifeOf, Stamp: contracts. -/
import Derived.Test.YtkanolmcaoecgaaLRPure
import Derived.Test.YtkanolmcaoecgaaLReach
import Derived.Laws.AppendOwnNone
import Derived.Deep.QuietTactic
import Derived.Deep.DeepCutAuto
namespace Go.Proofs.Ytkanolmcaoecgaa
open Go.RowKit

/-- a row of peers. -/
def Pw (base : Nat) (w : World) (v : Value) (ps : List Pr) : Prop :=
  ∃ xs, w.ownsRow base 55 5 v ps.length xs ∧ ∀ (i : Nat) (r : Pr) (j : Nat) (u : Value), ps[i]? = some r → r.cells[j]? = some u → xs[i * 5 + j]? = some u
/-- the numbers of a peer. -/
def Nw (base : Nat) (w : World) (r : Pr) : Prop := w.ownsRow base 3 1 r.nv r.ns.length (r.ns.map fun n : Nat => Value.int .i64 (n : Int))
def Xk (base : Nat) (w : World) (x : Nat) (v : Value) (life : Int) (ref : Nat) (ps : List Pr) : Prop :=
  base ≤ x ∧ w.heap[x]? = some (.cells #[.int .i64 life, .int .i64 (ref : Int), v] 30 (0, 0)) ∧ Pw base w v ps ∧ ∀ r ∈ ps, Nw base w r
theorem cells_lt {r : Pr} {j : Nat} {u : Value} (h : r.cells[j]? = some u) : j < 5 := (List.getElem?_eq_some_iff.1 h).1
theorem Pw.kept {base : Nat} {w w' : World} {v : Value} {ps : List Pr} (h : Pw base w v ps) (hk : ∀ (k : Nat) (cs : Array Value), w.heap[k]? = some (.cells cs 55 (0, 0)) → w'.heap[k]? = w.heap[k]?) : Pw base w' v ps := by
  obtain ⟨xs, h1, h2⟩ := h
  refine ⟨xs, ⟨h1.1, ?_⟩, h2⟩
  rcases h1.2 with h0 | ⟨g, cap, cur, e, hb, hh, r⟩
  · exact Or.inl h0
  · exact Or.inr ⟨g, cap, cur, e, hb, by rw [hk g cur hh]; exact hh, r⟩
theorem Nw.kept {base : Nat} {w w' : World} {r : Pr} (h : Nw base w r) (hk : ∀ (k : Nat) (cs : Array Value), w.heap[k]? = some (.cells cs 3 (0, 0)) → w'.heap[k]? = w.heap[k]?) : Nw base w' r := by
  refine ⟨h.1, ?_⟩
  rcases h.2 with h0 | ⟨g, cap, cur, e, hb, hh, r⟩
  · exact Or.inl h0
  · exact Or.inr ⟨g, cap, cur, e, hb, by rw [hk g cur hh]; exact hh, r⟩
theorem Nw.only {base b : Nat} {ts : List TypeId} {w w' : World} {r : Pr} (h : Nw base w r) (ho : Only b ts w w') (ht : 3 ∉ ts) : Nw base w' r := own_only h ho ht
theorem Xk.kept {base : Nat} {w w' : World} {x : Nat} {v : Value} {life : Int} {ref : Nat} {ps : List Pr} (h : Xk base w x v life ref ps)
    (hk : ∀ (k : Nat) (cs : Array Value) (t : TypeId), w.heap[k]? = some (.cells cs t (0, 0)) → t = 30 ∨ t = 55 ∨ t = 3 → w'.heap[k]? = w.heap[k]?) : Xk base w' x v life ref ps := by
  obtain ⟨h1, h2, h3, h4⟩ := h
  exact ⟨h1, by rw [hk x _ _ h2 (Or.inl rfl)]; exact h2, h3.kept fun k cs hc => hk k cs _ hc (Or.inr (Or.inl rfl)), fun r hr => (h4 r hr).kept fun k cs hc => hk k cs _ hc (Or.inr (Or.inr rfl))⟩
theorem Xk.below {base : Nat} {w w' : World} {x : Nat} {v : Value} {life : Int} {ref : Nat} {ps : List Pr} (h : Xk base w x v life ref ps) (hb : Below w.heap.size w w') : Xk base w' x v life ref ps :=
  h.kept fun k _ _ hc _ => hb.block k (blk_lt' hc)

/-- a cell of a row of the call's own, set. -/
theorem own_set {w : World} {base : Nat} {e : TypeId} {size g n cap : Nat} {xs : List Value} (h : w.ownsRow base e size (.slice (some ⟨g, 0, none⟩) n cap) n xs) {i : Nat} (_hi : i < n * size) (u : Value) :
    (w.setCell ⟨g, i, none⟩ u).ownsRow base e size (.slice (some ⟨g, 0, none⟩) n cap) n (xs.set i u) := by
  refine ⟨by rw [List.length_set]; exact h.1, ?_⟩
  rcases h.2 with ⟨h0, _⟩ | ⟨g', cap', cur, hv, hb, hh, hc, hm, hs, ht⟩
  · cases h0
  · cases hv
    refine Or.inr ⟨g, cap, cur.setIfInBounds i u, rfl, hb, setCell_block hh, hc, hm, by simpa using hs, ?_⟩
    rw [← ht, Array.toList_setIfInBounds, List.take_set]
theorem own_cell {w : World} {base : Nat} {e : TypeId} {size g n cap : Nat} {xs : List Value} (h : w.ownsRow base e size (.slice (some ⟨g, 0, none⟩) n cap) n xs) {i : Nat} {u : Value} (hi : xs[i]? = some u) :
    w.cell? ⟨g, i, none⟩ = some u ∧ w.frozen? ⟨g, i, none⟩ = false := by
  rcases h.2 with ⟨h0, _⟩ | ⟨g', cap', cur, hv, hb, hh, hc, hm, hs, ht⟩
  · cases h0
  · cases hv
    refine ⟨bcell hh ?_, free_of_block hh⟩
    rw [← ht] at hi
    obtain ⟨h1, h2⟩ := List.getElem?_eq_some_iff.1 hi
    have hl : i < cur.toList.length := by simp at h1; simp; omega
    rw [← Array.getElem?_toList, List.getElem?_eq_getElem hl]
    rw [List.getElem_take] at h2; rw [h2]
/-- one cell of one peer, set. -/
theorem Pw.set {base : Nat} {w : World} {g n cap : Nat} {ps : List Pr} (h : Pw base w (.slice (some ⟨g, 0, none⟩) n cap) ps) (hn : n = ps.length) {k : Nat} {r r' : Pr} (hk : ps[k]? = some r) {j : Nat} (hj : j < 5) {u : Value} (hr : r'.cells = r.cells.set j u) :
    Pw base (w.setCell ⟨g, k * 5 + j, none⟩ u) (.slice (some ⟨g, 0, none⟩) n cap) (ps.set k r') := by
  obtain ⟨xs, h1, h2⟩ := h
  subst hn
  have hkl : k < ps.length := (List.getElem?_eq_some_iff.1 hk).1
  have hxl := h1.1
  refine ⟨xs.set (k * 5 + j) u, ?_, fun i q jj v hq hv => ?_⟩
  · rw [List.length_set]; exact own_set h1 (by omega) u
  · have hjj := cells_lt hv
    by_cases e : i = k
    · subst e
      rw [List.getElem?_set_self hkl] at hq
      cases hq
      rw [hr] at hv
      by_cases e2 : jj = j
      · subst e2
        rw [List.getElem?_set_self (by show jj < 5; exact hj)] at hv
        rw [List.getElem?_set_self (by omega)]; exact hv
      · rw [List.getElem?_set_ne (fun x => e2 x.symm)] at hv
        rw [List.getElem?_set_ne (by omega)]
        exact h2 i r jj v hk hv
    · rw [List.getElem?_set_ne (fun x => e x.symm)] at hq
      rw [List.getElem?_set_ne (by omega)]
      exact h2 i q jj v hq hv
theorem Pw.cell {base : Nat} {w : World} {g n cap : Nat} {ps : List Pr} (h : Pw base w (.slice (some ⟨g, 0, none⟩) n cap) ps) (hn : n = ps.length) {k : Nat} {r : Pr} (hk : ps[k]? = some r) {j : Nat} {u : Value} (hu : r.cells[j]? = some u) :
    w.cell? ⟨g, k * 5 + j, none⟩ = some u ∧ w.frozen? ⟨g, k * 5 + j, none⟩ = false := by
  obtain ⟨xs, h1, h2⟩ := h
  subst hn
  exact own_cell h1 (h2 k r j u hk hu)
theorem Pw.slice {base : Nat} {w : World} {v : Value} {ps : List Pr} (h : Pw base w v ps) : (v = .slice none 0 0 ∧ ps = []) ∨ ∃ g cap cs, v = .slice (some ⟨g, 0, none⟩) ps.length cap ∧ base ≤ g ∧ w.heap[g]? = some (.cells cs 55 (0, 0)) ∧ ps.length ≤ cap ∧ cap ≤ maxLen := by
  obtain ⟨xs, h1, _⟩ := h
  rcases h1.2 with ⟨rfl, h0⟩ | ⟨g, cap, cur, rfl, hb, hh, hc, hm, _⟩
  · exact Or.inl ⟨rfl, List.eq_nil_of_length_eq_zero h0⟩
  · exact Or.inr ⟨g, cap, cur, rfl, hb, hh, hc, hm⟩

set_option maxRecDepth 20000 in
set_option maxHeartbeats 1000000 in
theorem lifeOf_any {base x : Nat} {v : Value} {life : Int} {ref : Nat} {ps : List Pr} (id : Int) (w : World) (h : Xk base w x v life ref ps) (hl : ps.length ≤ 1000000) :
    Calls Try.prog 16 #[.pointer (some ⟨x, 0, none⟩), .int .i64 id] w fun e w' => e = .returned (.int .i64 ((look ps id).life : Int)) ∧ w' = w := by
  obtain ⟨h1, h2, h3, h4⟩ := h
  have c2 : w.cell? ⟨x, 2, none⟩ = some v := bcell h2 rfl
  rcases h3.slice with ⟨rfl, rfl⟩ | ⟨g, cap, cs, rfl, hg, hh, hc, hm⟩
  · clear h2 h3 h4
    go_enter Try.func16, Try.ntmps16
    go_wp2
    go_loopg [5] 0 (fun gg iv wr => iv = .int .i64 0 ∧ wr = w)
    case atStart => exact ⟨rfl, rfl⟩
    case round =>
      obtain ⟨rfl, rfl⟩ := hrel
      go_wp2
      go_ret
      exact ⟨rfl, rfl⟩
  · obtain ⟨n, hn⟩ : ∃ n, ps.length = n := ⟨_, rfl⟩
    rw [hn] at c2 h3 hl
    have HP := hide h3
    have HN := hide hn
    clear h2 h3 h4 hh hc hn
    go_enter Try.func16, Try.ntmps16
    go_upto_region 2 with fail
    go_loopg [5] n (fun gg iv wr => ∃ k : Nat, k + gg = n ∧ iv = .int .i64 (k : Int) ∧ wr = w ∧ ∀ j q, j < k → ps[j]? = some q → q.id ≠ id)
    case atStart => exact ⟨0, by omega, rfl, rfl, fun j q hj => absurd hj (by omega)⟩
    case round =>
      obtain ⟨k, hgk, rfl, rfl, hne⟩ := hrel
      by_cases hlt : k < n
      · obtain ⟨r, hr⟩ : ∃ r, ps[k]? = some r := ⟨_, List.getElem?_eq_getElem (by rw [unhide HN]; exact hlt)⟩
        have e0 : wr.cell? ⟨g, k * 5, none⟩ = some (.int .i64 r.id) := ((unhide HP).cell (unhide HN).symm hr (j := 0) rfl).1
        have e1 : wr.cell? ⟨g, k * 5 + 1, none⟩ = some (.int .i64 (r.life : Int)) := ((unhide HP).cell (unhide HN).symm hr (j := 1) rfl).1
        have hkI : (k : Int) < (n : Int) := by omega
        have HG := hide hgk
        have HE := hide hne
        have HR := hide hr
        by_cases hid : r.id = id
        · have HL : Hid ((look ps id).life = r.life) := by show _ = _; rw [(pos_at id ps k r hne hr hid).2]
          rw [hid] at e0
          clear hid hgk hne hr
          go_wp2
          go_ret
          exact ⟨by rw [unhide HL]; rfl, rfl⟩
        · clear hgk hne hr
          have hb : (r.id == id) = false := by simp [hid]
          have HID := hide hid
          clear hid
          go_wp2
          go_roundg (n - (k + 1))
          case measure => have := unhide HG; omega
          case rel =>
            refine ⟨k + 1, by omega, by go_num, rfl, fun j q hj hq => ?_⟩
            by_cases e : j = k
            · subst e; rw [unhide HR] at hq; cases hq; exact unhide HID
            · exact unhide HE j q (by omega) hq
      · have hk : k = n := by omega
        have hkI : ¬ (k : Int) < (n : Int) := by omega
        have HL : Hid ((look ps id).life = 0) := by show _ = _; rw [(pos_end id ps (by rw [unhide HN, ← hk]; exact hne)).2]; rfl
        clear hne hgk hk
        go_wp2
        go_ret
        exact ⟨by rw [unhide HL]; rfl, rfl⟩
end Go.Proofs.Ytkanolmcaoecgaa
