/- tally's Votes: Add: a contract. -/
import Derived.Test.YtjcidihcmbenhaaYVote2
namespace Go.Proofs.Ytjcidihcmbenhaa
open Go.RowKit Go.Maps

theorem Fr.but {w w' : World} {b : Nat} {es : Array MapEntry} {cl : Nat} {ao : Option Addr} {ys : List Int} (h : Fr w ao ys) (hb : w.heap[b]? = some (.map es cl)) (hk : ∀ k, k < w.heap.size → k ≠ b → w'.heap[k]? = w.heap[k]?) : Fr w' ao ys := by
  refine ⟨fun i hi => ?_, h.2⟩
  obtain ⟨a, e, hc⟩ := h.1 i hi
  refine ⟨a, e, ?_⟩
  have hl := blk_lt hc
  rw [← hc]
  refine World.cell?_of_block (hk _ hl fun e' => ?_)
  simp only [World.cell?, e', hb] at hc
  cases hc
theorem Vt.store {B : Nat} {w w' : World} {p b : Nat} {old new : List Int} {f f' : Int → Option Int} {c c' : Nat} (h : Vt B w p b old new f c) (hm : Mp 70 w' b f' c') (hk : ∀ k, k < w.heap.size → k ≠ b → w'.heap[k]? = w.heap[k]?) : Vt B w' p b old new f' c' := by
  obtain ⟨ao, no, co, an, nn, cn, h1, h2, h3, h4, h5, h6, h7, h8, h9, h10⟩ := h
  obtain ⟨es, cl, hb⟩ := h8.isMap
  refine ⟨ao, no, co, an, nn, cn, (hk p (heap_lt h1) (fun e => by rw [e, hb] at h1; cases h1)).trans h1, h2, h3, h4.but hb hk, h5.but hb hk, h6, h7, hm, h9, h10⟩
def takes (old new : List Int) (f : Int → Option Int) (x : Int) : Bool := inOf old new x && saidOf f x == 0
def voted (old new : List Int) (f : Int → Option Int) (x : Int) (yes : Bool) : Int → Option Int := if takes old new f x = true then upd f x (if yes = true then 1 else 2) else f
theorem voted_yes {old new : List Int} {f : Int → Option Int} {x : Int} {yes : Bool} (h : takes old new f x = true) : voted old new f x yes = upd f x (if yes = true then 1 else 2) := if_pos h
theorem voted_no {old new : List Int} {f : Int → Option Int} {x : Int} {yes : Bool} (h : takes old new f x = false) : voted old new f x yes = f := if_neg (by rw [h]; exact Bool.false_ne_true)
theorem upd_upd (f : Int → Option Int) (x u v : Int) : upd (upd f x u) x v = upd f x v := by
  funext y; unfold upd; by_cases e : y = x
  · rw [if_pos e, if_pos e]
  · rw [if_neg e, if_neg e, if_neg e]

set_option maxRecDepth 20000 in
set_option maxHeartbeats 2000000 in
theorem add_any {base B : Nat} {p b : Nat} {old new : List Int} {f : Int → Option Int} {c : Nat} (x : Int) (yes : Bool) (hx : wf64 x) (w : World) (h : Vt B w p b old new f c) (hO : old.length ≤ 1000) (hN : new.length ≤ 1000) (hc : c ≤ 100000) (hb : base ≤ b) (hbase : base ≤ w.heap.size) :
    Calls Try.prog 14 #[.pointer (some ⟨p, 0, none⟩), .int .i64 x, .bool yes] w fun e w' => e = .returned (.bool (takes old new f x)) ∧ Vt B w' p b old new (voted old new f x yes) (c + 2) ∧ Kept base (fun k => k = b) w w' := by
  have HV := hide h
  obtain ⟨ao, no, co, an, nn, cn, h1, h2, h3, h4, h5, -, -, -, -, -⟩ := h
  have IN := hide (in_any ao an no nn co cn old new h2 h3 (by omega) (by omega) x w h4 h5)
  obtain ⟨c0, c1, c2⟩ := three_cells h1
  have HX := hide hx
  have HT : Hid (takes old new f x = (inOf old new x && saidOf f x == 0)) := rfl
  have HVO := hide (voted_yes (old := old) (new := new) (f := f) (x := x) (yes := yes))
  have HVN := hide (voted_no (old := old) (new := new) (f := f) (x := x) (yes := yes))
  obtain ⟨r, hr⟩ : ∃ r, inOf old new x = r := ⟨_, rfl⟩
  rw [hr] at IN HT
  obtain ⟨tk, htk⟩ : ∃ tk, takes old new f x = tk := ⟨_, rfl⟩
  rw [htk] at HT HVO HVN
  rw [htk]
  obtain ⟨f', hf'⟩ : ∃ f', voted old new f x yes = f' := ⟨_, rfl⟩
  rw [hf'] at HVO HVN
  rw [hf']
  clear hr htk hf' h1 h2 h3 h4 h5 hx
  go_enter Try.func14, Try.ntmps14
  go_wp2_with fail
  refine (unhide IN).mono ?_
  rintro e w1 ⟨rfl, b1⟩
  have V1 := hide ((unhide HV).below b1)
  have K1 := hide (Kept.of_below (f := fun k => k = b) b1 hbase)
  clear b1 IN c0 c1 c2 HV
  cases r
  · obtain rfl : tk = false := unhide HT
    obtain rfl := unhide HVN rfl
    clear HT HVO HVN
    go_wp2
    go_ret
    exact ⟨rfl, (unhide V1).mono (Nat.le_refl _) (by omega), unhide K1⟩
  · have v1 := unhide V1
    obtain ⟨ao', no', co', an', nn', cn', h1, -, -, -, -, -, -, h8, -, -⟩ := v1
    obtain ⟨c0, c1, c2⟩ := three_cells h1
    have lk := h8.look Try.underlying66 Try.underlying70 zeroV (unhide HX)
    by_cases hz : saidOf f x = 0
    · obtain rfl : tk = true := by rw [unhide HT, hz]; rfl
      have HF := hide (unhide HVO rfl)
      rw [show (f x).getD 0 = 0 from hz] at lk
      obtain ⟨W2, r1, r2, r3⟩ := h8.store Try.underlying66 Try.underlying70 (x := x) (v := 2) (unhide HX) (wf_range (by omega)) (by omega)
      have b2 : ∀ k, k < w1.heap.size → k ≠ b → W2.heap[k]? = w1.heap[k]? := fun k hk hn => r3.block k hk (by simpa using hn)
      have v2 := (unhide V1).store r2 b2
      obtain ⟨ao2, no2, co2, an2, nn2, cn2, g1, -, -, -, -, -, -, g8, -, -⟩ := v2
      obtain ⟨d0, d1, d2⟩ := three_cells g1
      have V2 := hide ((unhide V1).store r2 b2)
      have sb : base ≤ w1.heap.size := Nat.le_trans hbase (unhide K1).size
      have K2 : Hid (Kept base (fun k => k = b) w W2) := (unhide K1).trans (g := fun k => k = b) ⟨(Below.refl _ _).grown r3 sb (fun k hk => by cases hk; exact hb), fun k hk hn => b2 k hk hn⟩ (fun _ _ e => e)
      clear HT HVO HVN hz g1 h1 r3 b2 r2 h8
      cases yes
      · obtain rfl : upd f x 2 = f' := (unhide HF).symm
        clear HF g8
        go_wp2
        go_ret
        exact ⟨rfl, (unhide V2).mono (Nat.le_refl _) (by omega), unhide K2⟩
      · obtain ⟨W3, q1, q2, q3⟩ := g8.store Try.underlying66 Try.underlying70 (x := x) (v := 1) (unhide HX) (wf_range (by omega)) (by omega)
        rw [upd_upd] at q2
        have b3 : ∀ k, k < W2.heap.size → k ≠ b → W3.heap[k]? = W2.heap[k]? := fun k hk hn => q3.block k hk (by simpa using hn)
        have V3 := hide ((unhide V2).store q2 b3)
        have sc : base ≤ W2.heap.size := Nat.le_trans hbase (unhide K2).size
        have K3 : Hid (Kept base (fun k => k = b) w W3) := (unhide K2).trans (g := fun k => k = b) ⟨(Below.refl _ _).grown q3 sc (fun k hk => by cases hk; exact hb), fun k hk hn => b3 k hk hn⟩ (fun _ _ e => e)
        obtain rfl : upd f x 1 = f' := (unhide HF).symm
        clear HF g8 q3 b3 q2
        go_wp2
        go_ret
        exact ⟨rfl, unhide V3, unhide K3⟩
    · obtain rfl : tk = false := by rw [unhide HT, beq_eq_false_iff_ne.2 hz]; rfl
      obtain ⟨s, hs⟩ : ∃ s, saidOf f x = s := ⟨_, rfl⟩
      rw [show (f x).getD 0 = s from hs] at lk
      rw [hs] at hz
      obtain rfl := unhide HVN rfl
      have hz' : (s != 0) = true := by rw [bne_iff_ne]; exact hz
      clear HT HVO HVN hz hs h1 h8
      go_wp2
      go_ret
      exact ⟨rfl, (unhide V1).mono (Nat.le_refl _) (by omega), unhide K1⟩
end Go.Proofs.Ytjcidihcmbenhaa
