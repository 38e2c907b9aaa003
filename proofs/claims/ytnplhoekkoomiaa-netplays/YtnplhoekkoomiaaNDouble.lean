/- net's Double: a contract. -/
import Derived.Test.YtnplhoekkoomiaaNOps
namespace Go.Proofs.Ytnplhoekkoomiaa
open Go.RowKit Go.Maps

theorem step_picked {w : World} {ops : Array Oper} {o : Oper} {a : Act} {K : Act → World → Prop} {Q : Exit → Act → World → Prop} {E : Prop} (x y : Operand)
    (ho : o.op = .call { callee := .value (.func 22), args := #[x, y], argTypes := #[3, 3] }) (hg : o.guard = none) (n m : Int) (k : Nat) (hx : a.eval x = .int .i64 n) (hy : a.eval y = .int .i64 m) (hk : n % m = (k : Int)) (h1 : 0 < m) (h2 : m ≤ 1000000000000)
    (h : K (a.put o.dst (.int .i64 (k : Int))) w) :
    if Region.wanted o (yielded ops a.tmps) = true then Oper.wp Try.prog o a w K Q else E := by
  refine step_on hg ?_
  have e : (execOp a.eval o).run Try.prog w = .ok (.enter 22 #[.int .i64 n, .int .i64 m]) w := by
    unfold execOp
    simp only [ho, resolve, invoke, Sem.run_bind, List.map_toArray, List.map_cons, List.map_nil, hx, hy]
    simp [Act.eval, Deferred.ofValue, Result.andThen]
  unfold Oper.wp
  rw [e, Oper.upon_enter]
  refine (picked_nat n m k hk w h1 h2).mono ?_
  rintro e w' ⟨rfl, rfl⟩
  exact h

set_option maxRecDepth 20000 in
set_option maxHeartbeats 4000000 in
theorem double_ok {base p at' : Nat} {kk : Int} {bs : List Nat} {ms : List M} {side : List Int} {lost : Nat} {m : M} (w : World) (h : Nt base w p bs ms side lost) (hl : ms.length ≤ 1000000) (hk : kk % (ms.length : Int) = (at' : Int)) (hm : ms[at']? = some m) (hbase : base ≤ w.heap.size) :
    Calls Try.prog 14 #[.pointer (some ⟨p, 0, none⟩), .int .i64 kk] w fun e w' => e = .returned (.int .i64 0) ∧ (∃ bs', Nt base w' p bs' (ms ++ [m]) side lost) ∧ Only base [53, 55] w w' := by
  obtain ⟨v, mv, p1, p2, p3, p4, p5⟩ := h
  have hlt := (List.getElem?_eq_some_iff.1 hm).1
  have hbl := p4.1
  obtain ⟨b, hb⟩ : ∃ b, bs[at']? = some b := ⟨_, List.getElem?_eq_getElem (by omega)⟩
  have hmb := (p4.2 at' b m hb hm).2
  have Q3 := hide p3
  rcases p3 with ⟨rfl, rfl⟩ | ⟨g, off, cap, cur, rfl, hg, hh, hc, hcm, hs, hp⟩
  · simp at hb
  rw [← hbl] at hk hl hlt
  obtain ⟨k, hkn⟩ : ∃ k, bs.length = k + 1 := ⟨bs.length - 1, by omega⟩
  have cb : w.cell? ⟨g, off + at', none⟩ = some (.pointer (some ⟨b, 0, none⟩)) := (cell_of_block hh).trans (hp at' b hb)
  rw [hkn] at p2 hk hl hlt Q3
  have c0 : w.cell? ⟨p, 0, none⟩ = some (.slice (some ⟨g, off, none⟩) (k + 1) cap) := (cell_of_block p2).trans rfl
  have f0 : w.frozen? ⟨p, 0, none⟩ = false := free_of_block p2
  have HK : Hid (kk % ((k : Int) + 1) = (at' : Int)) := by show _ = _; rw [← hk]; simp
  have Q2 := hide p2
  have Q4 := hide p4
  have Q5 := hide p5
  have QR : Hid (MAt w b 0 m) := MAt.of_block hmb
  have hplt := blk_lt' p2
  have HKN := hide hkn
  clear p2 p4 p5 hh hs hp hb hk hkn hm hmb hbl hcm
  have z1 : (at' : Int) < (k : Int) + 1 := by omega
  go_enter Try.func14, Try.ntmps14
  go_upto_region 3 with fail
  go_region_law (first
    | (refine step_picked (.tmp 20) (.tmp 25) rfl rfl kk ((k : Int) + 1) at' rfl rfl (unhide HK) (by omega) (by omega) ?_)
    | (refine step_copied (.tmp 28) rfl rfl b 0 m rfl (MAt.below (unhide QR) ((Below.refl _ w).drew)) ?_
       intro w2 m2 b2 l2
       have b3 : Below w.heap.size w w2 := ((Below.refl _ w).drew).trans b2
       have M2 := hide m2
       have B2 := hide b3
       have c2 : w2.cell? ⟨p, 0, none⟩ = some (.slice (some ⟨g, off, none⟩) (k + 1) cap) := by rw [b3.cell hplt]; exact c0
       have XA := hide (fun o => show (w2.alloc o).cell? ⟨p, 0, none⟩ = some (.slice (some ⟨g, off, none⟩) (k + 1) cap) from by rw [((Below.refl w2.heap.size w2).alloc (Nat.le_refl _) o).cell (by have := b3.size; simp only; omega), b3.cell hplt]; exact c0)
       have cA := unhide XA (.cells #[.pointer (some ⟨w.heap.size, 0, none⟩)] 55)
       have s3 : base ≤ (w2.alloc (.cells #[.pointer (some ⟨w.heap.size, 0, none⟩)] 55)).heap.size := Nat.le_trans hbase (Nat.le_trans b3.size ((Below.refl w2.heap.size w2).alloc (Nat.le_refl _) _).size)
       clear m2 b2 b3)
    | (refine step_app (.tmp 15) (.tmp 30) rfl rfl ?_
       refine wp_push (.tmp 15) (.tmp 30) rfl base (.slice (some ⟨g, off, none⟩) (k + 1) cap) bs rfl ((unhide Q3).below ((unhide B2).alloc (unhide B2).size _)) w2.heap.size w.heap.size rfl (new_cell w2 _ _) (by rw [unhide HKN]; exact hl) s3 ?_
       intro v5 w5 y5 o5
       obtain ⟨ao5, cap5, rfl, _, _⟩ := y5.slice
       have Y5 := hide y5
       have O5 := hide o5
       have c5 : w5.cell? ⟨p, 0, none⟩ = some (.slice (some ⟨g, off, none⟩) (k + 1) cap) := by rw [o5.cells (((unhide B2).alloc (unhide B2).size _).block p hplt |>.trans (unhide Q2)) (by decide)]; exact unhide XA _
       have f5 : w5.frozen? ⟨p, 0, none⟩ = false := free_of_block (o5.block (((unhide B2).alloc (unhide B2).size _).block p hplt |>.trans (unhide Q2)) (by decide))
       clear y5 o5))
  all_goals
    have n5 := nt_way p1 ((unhide O5).block (((unhide B2).alloc (unhide B2).size _).block p hplt |>.trans (unhide Q2)) (by decide)) (unhide Y5)
      (Ms.snoc (m := m) (((unhide Q4).below ((unhide B2).alloc (unhide B2).size _)).only (unhide O5) (by decide)) hbase ((unhide O5).block (((Below.refl w2.heap.size w2).alloc (Nat.le_refl _) _).block w.heap.size (blk_lt' (unhide M2)) |>.trans (unhide M2)) (by decide)))
      (((unhide Q5).below ((unhide B2).alloc (unhide B2).size _)).only (unhide O5))
    have N5 := hide n5
    have K5 := hide ((Only.of_below (ts := [53, 55]) ((unhide B2).alloc (unhide B2).size _) hbase).trans ((unhide O5).mono (Nat.le_refl _) (by simp)))
    clear n5 c0 f0 c2 cA XA c5 f5
  all_goals go_wp2
  all_goals go_ret
  all_goals
    have N5' := unhide N5
    simp only [List.length_append, List.length_cons, List.length_nil, Nat.zero_add] at N5'
    exact ⟨rfl, ⟨_, N5'.1⟩, (unhide K5).trans (N5'.2.mono (Nat.le_refl _) (by simp))⟩
end Go.Proofs.Ytnplhoekkoomiaa
