/- A law's calls of a log; synodallaw10.few: a contract. -/
import Derived.Test.YtmgdkbpbmngibaaHEntry
namespace Go.Proofs.Ytmgdkbpbmngibaa
open Go.RowKit Go.Maps

/-- a slice of entries, as it comes in. -/
def EsA (w : World) (ao : Option Addr) (es : List En) : Prop :=
  ∀ (i : Nat) (e : En), es[i]? = some e → ∃ g off mo cap, ao = some ⟨g, off, none⟩ ∧ (∀ (j : Nat) (u : Value), (e.cells (.slice mo e.ms.length cap))[j]? = some u → w.cell? ⟨g, off + i * 6 + j, none⟩ = some u) ∧ IntsR w mo e.ms ∧ e.ms.length ≤ maxLen ∧ e.text.size ≤ maxLen
theorem EsA.below {w w' : World} {ao : Option Addr} {es : List En} (h : EsA w ao es) (hb : Below w.heap.size w w') : EsA w' ao es := fun i e hi => by
  obtain ⟨g, off, mo, cap, h1, h2, h3, h4⟩ := h i e hi
  exact ⟨g, off, mo, cap, h1, fun j u hj => by rw [hb.cell (blk_lt (h2 j u hj))]; exact h2 j u hj, h3.below hb, h4⟩
theorem EsA.esR {w : World} {ao : Option Addr} {es : List En} (h : EsA w ao es) (hm : ∀ e ∈ es, e.ms.length ≤ 30) : EsR (fun k => k < w.heap.size) w ao es := fun i e hi => by
  obtain ⟨g, off, mo, cap, h1, h2, h3, h4⟩ := h i e hi
  exact ⟨g, off, mo, cap, h1, blk_lt (h2 0 _ rfl), h2, h3.inF, by have := hm e (List.mem_of_getElem? hi); omega⟩
structure HC where
  put : Bool
  index : Int
  term : Int
  terms : List Int
  es : List En
def HC.cells (c : HC) (at' : Option Addr) (ct : Nat) (ae : Option Addr) (ce : Nat) : List Value := [.bool c.put, .int .i64 c.index, .int .i64 c.term, .slice at' c.terms.length ct, .slice ae c.es.length ce]
structure CallIs (w : World) (c : HC) (at' : Option Addr) (ct : Nat) (ae : Option Addr) (ce : Nat) : Prop where
  t : IntsR w at' c.terms
  t1 : c.terms.length ≤ ct
  t2 : ct ≤ maxLen
  t3 : at' = none → ct = 0
  e : EsA w ae c.es
  e1 : c.es.length ≤ ce
  e2 : ce ≤ maxLen
  e3 : ae = none → ce = 0
theorem CallIs.below {w w' : World} {c : HC} {at' ae : Option Addr} {ct ce : Nat} (h : CallIs w c at' ct ae ce) (hb : Below w.heap.size w w') : CallIs w' c at' ct ae ce := ⟨h.t.below hb, h.t1, h.t2, h.t3, h.e.below hb, h.e1, h.e2, h.e3⟩
def CallsR (w : World) (ao : Option Addr) (cs : List HC) : Prop :=
  ∀ (i : Nat) (c : HC), cs[i]? = some c → ∃ g off at' ae ct ce, ao = some ⟨g, off, none⟩ ∧ (∀ (j : Nat) (u : Value), (c.cells at' ct ae ce)[j]? = some u → w.cell? ⟨g, off + i * 5 + j, none⟩ = some u) ∧ CallIs w c at' ct ae ce
theorem CallsR.below {w w' : World} {ao : Option Addr} {cs : List HC} (h : CallsR w ao cs) (hb : Below w.heap.size w w') : CallsR w' ao cs := fun i c hi => by
  obtain ⟨g, off, at', ae, ct, ce, h1, h2, h3⟩ := h i c hi
  exact ⟨g, off, at', ae, ct, ce, h1, fun j u hj => by rw [hb.cell (blk_lt (h2 j u hj))]; exact h2 j u hj, h3.below hb⟩
theorem CallsR.at {w : World} {ao : Option Addr} {cs : List HC} (h : CallsR w ao cs) {i : Nat} {c : HC} (hi : cs[i]? = some c) :
    ∃ g off at' ae ct ce, ao = some ⟨g, off, none⟩ ∧ w.cell? ⟨g, off + i * 5, none⟩ = some (.bool c.put) ∧ w.cell? ⟨g, off + i * 5 + 1, none⟩ = some (.int .i64 c.index) ∧ w.cell? ⟨g, off + i * 5 + 2, none⟩ = some (.int .i64 c.term) ∧ w.cell? ⟨g, off + i * 5 + 3, none⟩ = some (.slice at' c.terms.length ct) ∧ w.cell? ⟨g, off + i * 5 + 4, none⟩ = some (.slice ae c.es.length ce) ∧ CallIs w c at' ct ae ce := by
  obtain ⟨g, off, at', ae, ct, ce, h1, h2, h3⟩ := h i c hi
  exact ⟨g, off, at', ae, ct, ce, h1, h2 0 _ rfl, h2 1 _ rfl, h2 2 _ rfl, h2 3 _ rfl, h2 4 _ rfl, h3⟩
/-- a call that is not too much. -/
structure HC.few (c : HC) : Prop where
  t : c.terms.length ≤ 80
  n : c.es.length ≤ 80
  m : ∀ e ∈ c.es, e.ms.length ≤ 30
/-- some Boolean is answered; if it is true, it says something. -/
def BoolIf (p : Prop) (e : Ending) : Prop := ∃ r, e = .returned (.bool r) ∧ (r = true → p)

set_option maxRecDepth 20000 in
set_option maxHeartbeats 4000000 in
theorem few_any (ao : Option Addr) (n cap : Nat) (cs : List HC) (hn : cs.length = n) (hn6 : n ≤ maxLen) (w : World) (hc : CallsR w ao cs) :
    Calls Try.prog 10 #[.slice ao n cap] w fun x w' => BoolIf (cs.length ≤ 60 ∧ ∀ c ∈ cs, c.few) x ∧ Below w.heap.size w w' := by
  have HC' := hide hc
  have HN := hide hn
  have hn7 : n ≤ 9223372036854775807 := hn6
  clear hc hn hn6
  go_enter Try.func10, Try.ntmps10
  go_wp2_with fail
  go_loopw [3, 4] (fun iv _ wr => ∃ k : Nat, k ≤ n ∧ k ≤ 100 ∧ iv = .int .i64 (k : Int) ∧ (∀ (i : Nat) (c : HC), i < k → cs[i]? = some c → c.few) ∧ Below w.heap.size w wr) (fun iv _ _ => 100 - (intOf iv).toNat)
  case atStart => exact ⟨0, Nat.zero_le _, by decide, rfl, fun i c hi => by omega, Below.refl _ _⟩
  case round =>
    obtain ⟨k, hk, hk1, rfl, hall, hb⟩ := hrel
    obtain ⟨wo, hwo⟩ : ∃ wo, wo = wr := ⟨_, rfl⟩
    subst hwo
    have HALL := hide hall
    have B := hide hb
    clear hall hb
    by_cases hlt : k < n
    · by_cases h100 : k < 100
      · obtain ⟨c, hci⟩ : ∃ c, cs[k]? = some c := ⟨_, List.getElem?_eq_getElem (by rw [unhide HN]; exact hlt)⟩
        obtain ⟨g, off, at', ae, ct, ce, rfl, _, _, _, d3, d4, hci2⟩ := ((unhide HC').below (unhide B)).at hci
        have hq : (k : Int) < (n : Int) := by omega
        have hq1 : (k : Int) < 100 := by omega
        obtain ⟨tn, htn⟩ : ∃ tn, c.terms.length = tn := ⟨_, rfl⟩
        obtain ⟨en, hen⟩ : ∃ en, c.es.length = en := ⟨_, rfl⟩
        have htl : tn ≤ 9223372036854775807 := by have h1 := hci2.t1; have h2 : ct ≤ 9223372036854775807 := hci2.t2; omega
        have hel : en ≤ 9223372036854775807 := by have h1 := hci2.e1; have h2 : ce ≤ 9223372036854775807 := hci2.e2; omega
        rw [htn] at d3
        rw [hen] at d4
        by_cases h1 : tn ≤ 80
        · have g1 : decide ((80 : Int) < (tn : Int)) = false := decide_eq_false (by omega)
          by_cases h2 : en ≤ 80
          · have g2 : decide ((80 : Int) < (en : Int)) = false := decide_eq_false (by omega)
            have HE := hide hci2.e
            have HEN := hide hen
            have HCI := hide hci
            have HTN := hide htn
            clear hci2 hci htn hen
            go_wp2_with fail
            go_loopw [4] (fun jv wq => ∃ m : Nat, m ≤ en ∧ jv = .int .i64 (m : Int) ∧ (∀ (i : Nat) (e : En), i < m → c.es[i]? = some e → e.ms.length ≤ 30) ∧ Below wo.heap.size wo wq) (fun jv _ => en - (intOf jv).toNat)
            case atStart => exact ⟨0, Nat.zero_le _, rfl, fun i e hi => by omega, Below.refl _ _⟩
            case round =>
              obtain ⟨m, hm, rfl, hme, hb2⟩ := hrel
              have e4 : wr.cell? ⟨g, off + k * 5 + 4, none⟩ = some (.slice ae en ce) := by rw [hb2.cell (blk_lt d4)]; exact d4
              have ME := hide hme
              have B2 := hide hb2
              clear hme hb2
              by_cases hml : m < en
              · obtain ⟨e, he⟩ : ∃ e, c.es[m]? = some e := ⟨_, List.getElem?_eq_getElem (by rw [unhide HEN]; exact hml)⟩
                obtain ⟨g2, off2, mo, cap2, rfl, hcl, _, hms, hts⟩ := ((unhide HE).below (unhide B2)) m e he
                obtain ⟨_, _, _, k3, k4, _⟩ := En.six hcl
                have hms' : e.ms.length ≤ 9223372036854775807 := hms
                have hts' : e.text.size ≤ 9223372036854775807 := hts
                have hqm : (m : Int) < (en : Int) := by omega
                by_cases hx : e.text.size ≤ 200
                · have g3 : decide ((200 : Int) < (e.text.size : Int)) = false := decide_eq_false (by omega)
                  by_cases hy : e.ms.length ≤ 30
                  · have g4 : decide ((30 : Int) < (e.ms.length : Int)) = false := decide_eq_false (by omega)
                    have HE2 := hide he
                    have HY := hide hy
                    clear he hcl hx hy
                    go_wp2
                    go_roundw
                    case rel =>
                      refine ⟨m + 1, by omega, by go_num, fun i q hi hqi => ?_, unhide B2⟩
                      by_cases him : i < m
                      · exact unhide ME i q him hqi
                      · obtain rfl : i = m := by omega
                        rw [unhide HE2] at hqi; cases hqi; exact unhide HY
                    case measure => simp [intOf]; omega
                  · have g4 : decide ((30 : Int) < (e.ms.length : Int)) = true := decide_eq_true (by omega)
                    clear he hcl hx hy
                    go_wp2
                    go_ret
                    exact ⟨⟨_, rfl, fun h => by simp at h⟩, below_far (unhide B) (unhide B2)⟩
                · have g3 : decide ((200 : Int) < (e.text.size : Int)) = true := decide_eq_true (by omega)
                  clear he hcl hx
                  go_wp2
                  go_ret
                  exact ⟨⟨_, rfl, fun h => by simp at h⟩, below_far (unhide B) (unhide B2)⟩
              · obtain rfl : m = en := by omega
                go_wp2
                go_roundw
                case rel =>
                  refine ⟨k + 1, by omega, by omega, by go_num, fun i q hi hqi => ?_, below_far (unhide B) (unhide B2)⟩
                  by_cases him : i < k
                  · exact unhide HALL i q him hqi
                  · obtain rfl : i = k := by omega
                    rw [unhide HCI] at hqi; cases hqi
                    refine ⟨by rw [unhide HTN]; exact h1, by rw [unhide HEN]; exact h2, fun e he => ?_⟩
                    obtain ⟨j, hj, hje⟩ := List.getElem_of_mem he
                    exact unhide ME j e (by rw [← unhide HEN]; exact hj) (by rw [List.getElem?_eq_getElem hj, hje])
                case measure => simp [intOf]; omega
          · have g2 : decide ((80 : Int) < (en : Int)) = true := decide_eq_true (by omega)
            clear h2
            go_wp2
            go_ret
            exact ⟨⟨_, rfl, fun h => by simp at h⟩, unhide B⟩
        · have g1 : decide ((80 : Int) < (tn : Int)) = true := decide_eq_true (by omega)
          clear h1
          go_wp2
          go_ret
          exact ⟨⟨_, rfl, fun h => by simp at h⟩, unhide B⟩
      · have hq : (k : Int) < (n : Int) := by omega
        have hq1 : ¬ (k : Int) < 100 := by omega
        have g5 : decide ((n : Int) ≤ 60) = false := decide_eq_false (by omega)
        go_wp2
        go_ret
        exact ⟨⟨_, rfl, fun h => by simp at h⟩, unhide B⟩
    · obtain rfl : k = n := by omega
      go_wp2
      go_ret
      refine ⟨⟨_, rfl, fun h => ?_⟩, unhide B⟩
      have h60 : k ≤ 60 := by
        have : decide ((k : Int) ≤ 60) = true := h
        rw [decide_eq_true_eq] at this; omega
      refine ⟨by rw [unhide HN]; exact h60, fun c hc => ?_⟩
      obtain ⟨j, hj, hje⟩ := List.getElem_of_mem hc
      exact unhide HALL j c (by rw [← unhide HN]; exact hj) (by rw [List.getElem?_eq_getElem hj, hje])
end Go.Proofs.Ytmgdkbpbmngibaa
