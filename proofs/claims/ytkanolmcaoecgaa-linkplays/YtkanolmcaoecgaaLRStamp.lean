/- The reference's Stamp: a contract. -/
import Derived.Test.YtkanolmcaoecgaaLRAt
namespace Go.Proofs.Ytkanolmcaoecgaa
open Go.RowKit

/-- one peer's place, read and set. -/
theorem Xk.open {base : Nat} {w : World} {x : Nat} {v : Value} {life : Int} {ref : Nat} {ps : List Pr} (h : Xk base w x v life ref ps) {k : Nat} {r : Pr} (hk : ps[k]? = some r) :
    ∃ g n cap, v = .slice (some ⟨g, 0, none⟩) n cap ∧ ps.length = n ∧ k < n ∧ n ≤ cap ∧ cap ≤ maxLen ∧ g ≠ x ∧ base ≤ g ∧ (∃ cs, w.heap[g]? = some (.cells cs 55 (0, 0))) ∧ Pw base w (.slice (some ⟨g, 0, none⟩) n cap) ps := by
  obtain ⟨h1, h2, h3, h4⟩ := h
  have hkl := (List.getElem?_eq_some_iff.1 hk).1
  rcases h3.slice with ⟨_, rfl⟩ | ⟨g, cap, cs, rfl, hg, hh, hc, hm⟩
  · simp at hk
  · exact ⟨g, ps.length, cap, rfl, rfl, hkl, hc, hm, (fun e => by subst e; rw [h2] at hh; cases hh), hg, ⟨cs, hh⟩, h3⟩

set_option maxRecDepth 20000 in
set_option maxHeartbeats 1000000 in
theorem stampX_any {base x : Nat} {v : Value} {life : Int} {ref : Nat} {ps : List Pr} (id : Int) (w : World) (h : Xk base w x v life ref ps) (hl : ps.length ≤ 1000) (hbase : base ≤ w.heap.size) (hs : (look ps id).sent ≤ 1000000) :
    Calls Try.prog 12 #[.pointer (some ⟨x, 0, none⟩), .int .i64 id] w fun e w' => e = .returned (.tuple #[.int .i64 life, .int .i64 (((look ps id).sent + 1 : Nat) : Int)]) ∧ (∃ v', Xk base w' x v' life ref ((more ps id).set (pos ps id) { look ps id with sent := (look ps id).sent + 1 })) ∧ Only base [30, 55] w w' := by
  have AT := hide (at_any id w h (by omega) hbase)
  have hmk := more_get id ps
  have hml := (more_length id ps).1
  obtain ⟨ps1, hps1⟩ : ∃ ps1, more ps id = ps1 := ⟨_, rfl⟩
  obtain ⟨k, hk⟩ : ∃ k, pos ps id = k := ⟨_, rfl⟩
  obtain ⟨r, hr⟩ : ∃ r, look ps id = r := ⟨_, rfl⟩
  rw [hps1, hk] at AT
  rw [hps1, hk, hr] at hmk
  rw [hps1] at hml
  rw [hps1, hk, hr]
  rw [hr] at hs
  have HMK := hide hmk
  have HML := hide hml
  clear hps1 hk hr hmk hml h
  go_enter Try.func12, Try.ntmps12
  go_wp2_with fail
  refine (unhide AT).mono ?_
  rintro e w1 ⟨rfl, ⟨v1, x1⟩, o1⟩
  obtain ⟨g, n, cap, rfl, hn, hkn, hc, hm, hgx, hbg, ⟨cs, hcs⟩, hp⟩ := x1.open (unhide HMK)
  obtain ⟨hbx, hx, _, hns⟩ := x1
  have c0 : w1.cell? ⟨x, 0, none⟩ = some (.int .i64 life) := bcell hx rfl
  have c2 : w1.cell? ⟨x, 2, none⟩ = some (.slice (some ⟨g, 0, none⟩) n cap) := bcell hx rfl
  obtain ⟨e2, f2⟩ := hp.cell hn.symm (unhide HMK) (j := 2) rfl
  obtain ⟨m, hm1⟩ : ∃ m, r.sent + 1 = m := ⟨_, rfl⟩
  have em : (r.sent : Int) + 1 = (m : Int) := by omega
  have wrm : IntKind.i64.wrap (m : Int) = (m : Int) := by
    simp only [IntKind.wrap, IntKind.bits, IntKind.signed]
    simp
    omega
  obtain ⟨W2, hW2⟩ : ∃ W2, w1.setCell ⟨g, k * 5 + 2, none⟩ (.int .i64 (m : Int)) = W2 := ⟨_, rfl⟩
  have p2 : Pw base W2 (.slice (some ⟨g, 0, none⟩) n cap) (ps1.set k { r with sent := m }) := by rw [← hW2]; exact hp.set hn.symm (unhide HMK) (by decide) rfl
  have k2 : ∀ b, b ≠ g → W2.heap[b]? = w1.heap[b]? := fun b hb => by rw [← hW2]; exact Below.heap_setCell w1 ⟨g, k * 5 + 2, none⟩ _ b hb
  have x2 : W2.heap[x]? = some (.cells #[.int .i64 life, .int .i64 (ref : Int), .slice (some ⟨g, 0, none⟩) n cap] 30 (0, 0)) := (k2 x (fun e => hgx e.symm)).trans hx
  have o2 : Only base [30, 55] w W2 := by rw [← hW2]; exact o1.setCell (p := ⟨g, k * 5 + 2, none⟩) hbg _ hcs (by simp)
  have hkl : k < ps1.length := by omega
  have g2 : W2.cell? ⟨g, k * 5 + 2, none⟩ = some (.int .i64 (m : Int)) := (p2.cell (k := k) (r := { r with sent := m }) (by rw [List.length_set]; exact hn.symm) (List.getElem?_set_self hkl) (j := 2) rfl).1
  have d0 : W2.cell? ⟨x, 0, none⟩ = some (.int .i64 life) := bcell x2 rfl
  have d2 : W2.cell? ⟨x, 2, none⟩ = some (.slice (some ⟨g, 0, none⟩) n cap) := bcell x2 rfl
  have FIN : Hid ((∃ v', Xk base W2 x v' life ref (ps1.set k { r with sent := m })) ∧ Only base [30, 55] w W2) := by
    refine ⟨⟨_, hbx, x2, p2, fun q hq => ?_⟩, o2⟩
    have ho : Only base [30, 55] w1 W2 := by rw [← hW2]; exact (Only.refl _ _ w1).setCell (p := ⟨g, k * 5 + 2, none⟩) hbg _ hcs (by simp)
    rcases List.mem_or_eq_of_mem_set hq with hq | rfl
    · exact (hns q hq).only ho (by decide)
    · exact (hns r (List.mem_of_getElem? (unhide HMK))).only ho (by decide)
  have HW2 := hide hW2
  have hkI : (k : Int) < (n : Int) := by omega
  have HM1 := hide hm1
  clear hp hx hns p2 k2 x2 o2 hW2 hcs o1 hm1 hgx hbg hn hkl AT HMK HML
  go_upto_region 3 with fail
  rw [unhide HW2]
  clear HW2 c0 c2 e2 f2
  go_quiet (fail)
  go_wp2
  go_ret2
  have hb := drewN_below W2 nq
  obtain ⟨⟨v', hx'⟩, ho'⟩ := unhide FIN
  rw [unhide HM1]
  exact ⟨rfl, ⟨v', hx'.below hb⟩, ho'.trans (Only.of_below hb (Nat.le_trans hbase ho'.size))⟩
end Go.Proofs.Ytkanolmcaoecgaa
