/- net's Send: a contract. -/
import Derived.Test.YtnplhoekkoomiaaNWay
import Derived.Deep.CutBlock
namespace Go.Proofs.Ytnplhoekkoomiaa
open Go.RowKit Go.Maps

theorem Way.below {base : Nat} {w w' : World} {v : Value} {bs : List Nat} (h : Way base w v bs) (hb : Below w.heap.size w w') : Way base w' v bs := h.kept fun k _ hk => hb.block k (blk_lt' hk)
theorem Ms.below {base : Nat} {w w' : World} {bs : List Nat} {ms : List M} (h : Ms base w bs ms) (hb : Below w.heap.size w w') : Ms base w' bs ms := h.kept fun k _ _ hk => hb.block k (blk_lt' hk)
theorem Ms.only {base b : Nat} {ts : List TypeId} {w w' : World} {bs : List Nat} {ms : List M} (h : Ms base w bs ms) (ho : Only b ts w w') (ht : 36 ∉ ts) : Ms base w' bs ms :=
  h.kept fun k _ _ hk => ho.2 k (blk_lt' hk) fun c e f h0 => by rw [hk] at h0; cases h0; exact ht
theorem Sd.below {base : Nat} {w w' : World} {mv : Value} {side : List Int} (h : Sd base w mv side) (hb : Below w.heap.size w w') : Sd base w' mv side := h.kept fun k _ hk => hb.block k hk
theorem Sd.only {base b : Nat} {ts : List TypeId} {w w' : World} {mv : Value} {side : List Int} (h : Sd base w mv side) (ho : Only b ts w w') : Sd base w' mv side :=
  h.kept fun k hn hk => ho.2 k hk fun c e f h0 => absurd h0 (hn c e f)
theorem Ms.snoc {base : Nat} {w : World} {bs : List Nat} {ms : List M} {b : Nat} {m : M} (h : Ms base w bs ms) (hb : base ≤ b) (hm : w.heap[b]? = some (.cells m.cells 36 (0, 0))) : Ms base w (bs ++ [b]) (ms ++ [m]) := by
  refine ⟨by simp [h.1], fun i c x hc hx => ?_⟩
  rw [List.getElem?_append] at hc hx
  rw [← h.1] at hx
  split at hc
  · rename_i h0
    rw [if_pos h0] at hx
    exact h.2 i c x hc hx
  · rename_i h0
    rw [if_neg h0] at hx
    have hi : i - bs.length < 1 := by have := (List.getElem?_eq_some_iff.1 hc).1; simpa using this
    obtain rfl : i = bs.length := by omega
    simp at hc hx
    subst hc hx
    exact ⟨hb, hm⟩

/-- one more was lost. -/
theorem nt_lost {base : Nat} {w : World} {p : Nat} {bs : List Nat} {ms : List M} {side : List Int} {v mv : Value} {l : Int} (n : Nat) (h1 : base ≤ p) (h2 : w.heap[p]? = some (.cells #[v, mv, .int .i64 l] 53 (0, 0))) (h3 : Way base w v bs) (h4 : Ms base w bs ms) (h5 : Sd base w mv side) :
    Nt base (w.setCell ⟨p, 2, none⟩ (.int .i64 (n : Int))) p bs ms side n ∧ Only base [53] w (w.setCell ⟨p, 2, none⟩ (.int .i64 (n : Int))) := by
  have o : Only base [53] w (w.setCell ⟨p, 2, none⟩ (.int .i64 (n : Int))) := (Only.refl _ _ w).setCell (p := ⟨p, 2, none⟩) h1 _ h2 (by simp)
  refine ⟨⟨v, mv, h1, setCell_block h2, h3.kept fun k _ hk => o.2 k (blk_lt' hk) fun c e f h0 => by rw [hk] at h0; cases h0; decide, h4.only o (by decide), h5.only o⟩, o⟩
/-- what is under way is another row. -/
theorem nt_way {base : Nat} {w : World} {p : Nat} {bs : List Nat} {ms : List M} {side : List Int} {v v' mv : Value} {n : Nat} (h1 : base ≤ p) (h2 : w.heap[p]? = some (.cells #[v, mv, .int .i64 (n : Int)] 53 (0, 0))) (h3 : Way base w v' bs) (h4 : Ms base w bs ms) (h5 : Sd base w mv side) :
    Nt base (w.setCell ⟨p, 0, none⟩ v') p bs ms side n ∧ Only base [53] w (w.setCell ⟨p, 0, none⟩ v') := by
  have o : Only base [53] w (w.setCell ⟨p, 0, none⟩ v') := (Only.refl _ _ w).setCell (p := ⟨p, 0, none⟩) h1 _ h2 (by simp)
  refine ⟨⟨v', mv, h1, setCell_block h2, h3.kept fun k _ hk => o.2 k (blk_lt' hk) fun c e f h0 => by rw [hk] at h0; cases h0; decide, h4.only o (by decide), h5.only o⟩, o⟩

theorem wp_push {w : World} {o : Oper} {a : Act} {K : Act → World → Prop} {Q : Exit → Act → World → Prop} (s x : Operand)
    (ho : o.op = .call { callee := .builtin .append, args := #[s, x], argTypes := #[50, 50] }) (base : Nat) (v : Value) (bs : List Nat) (hs : a.eval s = v) (hway : Way base w v bs)
    (nb b : Nat) (hx : a.eval x = .slice (some ⟨nb, 0, none⟩) 1 1) (hc : w.cell? ⟨nb, 0, none⟩ = some (.pointer (some ⟨b, 0, none⟩))) (hl : bs.length ≤ 1000000) (hb : base ≤ w.heap.size)
    (h : ∀ v' w', Way base w' v' (bs ++ [b]) → Only base [55] w w' → K (a.put o.dst v') w') : Oper.wp Try.prog o a w K Q := by
  obtain ⟨v', w', hr, h1, h2⟩ := run_push hway o.type nb b hc hl hb
  unfold Oper.wp execOp
  simp only [ho, resolve, invoke, builtin, Sem.run_bind, Sem.run_pure, Result.andThen_ok, List.map_toArray, List.map_cons, List.map_nil, hs, hx, hr]
  exact h v' w' h1 h2
theorem step_on {w : World} {ops : Array Oper} {o : Oper} {a : Act} {K : Act → World → Prop} {Q : Exit → Act → World → Prop} {E : Prop} (hg : o.guard = none) (h : Oper.wp Try.prog o a w K Q) :
    if Region.wanted o (yielded ops a.tmps) = true then Oper.wp Try.prog o a w K Q else E := by
  have hw : Region.wanted o (yielded ops a.tmps) = true := by simp [Region.wanted, hg]
  rw [if_pos hw]; exact h
theorem step_app {w : World} {ops : Array Oper} {o : Oper} {a : Act} {K : Act → World → Prop} {Q : Exit → Act → World → Prop} {E : Prop} (s x : Operand) (_ho : o.op = .call { callee := .builtin .append, args := #[s, x], argTypes := #[50, 50] }) (hg : o.guard = none) (h : Oper.wp Try.prog o a w K Q) :
    if Region.wanted o (yielded ops a.tmps) = true then Oper.wp Try.prog o a w K Q else E := step_on hg h
theorem new_cell (x : World) (u : Value) (t : TypeId) : (x.alloc (.cells #[u] t)).cell? ⟨x.heap.size, 0, none⟩ = some u := by
  have := heap_alloc_new x (.cells #[u] t)
  simp only [World.cell?, this]; rfl

theorem step_copied {w : World} {ops : Array Oper} {o : Oper} {a : Act} {K : Act → World → Prop} {Q : Exit → Act → World → Prop} {E : Prop} (x : Operand)
    (ho : o.op = .call { callee := .value (.func 20), args := #[x], argTypes := #[55] }) (hg : o.guard = none) (mb mo : Nat) (m : M) (hx : a.eval x = .pointer (some ⟨mb, mo, none⟩)) (hm : MAt w mb mo m)
    (h : ∀ w', w'.heap[w.heap.size]? = some (.cells m.cells 36 (0, 0)) → Below w.heap.size w w' → w.heap.size < w'.heap.size → K (a.put o.dst (.pointer (some ⟨w.heap.size, 0, none⟩))) w') :
    if Region.wanted o (yielded ops a.tmps) = true then Oper.wp Try.prog o a w K Q else E := by
  refine step_on hg ?_
  have e : (execOp a.eval o).run Try.prog w = .ok (.enter 20 #[.pointer (some ⟨mb, mo, none⟩)]) w := by
    unfold execOp
    simp only [ho, resolve, invoke, Sem.run_bind, List.map_toArray, List.map_cons, List.map_nil, hx]
    simp [Act.eval, Deferred.ofValue, Result.andThen]
  unfold Oper.wp
  rw [e, Oper.upon_enter]
  refine (copied_any w hm).mono ?_
  rintro e w' ⟨rfl, h1, h2, h3⟩
  exact h w' h1 h2 h3

/-- a row of messages. -/
def Row (w : World) (lb : Nat) (ls : List M) : Prop := ∃ cur fr, w.heap[lb]? = some (.cells cur 36 fr) ∧ ∀ i m j u, ls[i]? = some m → (M.cells m)[j]? = some u → cur[i * 13 + j]? = some u
theorem Row.only {b : Nat} {ts : List TypeId} {w w' : World} {lb : Nat} {ls : List M} (h : Row w lb ls) (ho : Only b ts w w') (ht : 36 ∉ ts) : Row w' lb ls := by
  obtain ⟨cur, fr, h1, h2⟩ := h
  exact ⟨cur, fr, ho.block h1 ht, h2⟩
theorem Row.at {w : World} {lb : Nat} {ls : List M} (h : Row w lb ls) {i : Nat} {m : M} (hm : ls[i]? = some m) : MAt w lb (i * 13) m := by
  obtain ⟨cur, fr, h1, h2⟩ := h
  intro j u hj
  rw [cell_of_block h1]; exact h2 i m j u hm hj
def M.wf (m : M) : Prop := (Lit.int .i64 m.f).wf = true ∧ (Lit.int .i64 m.t).wf = true
def passB (side : List Int) (m : M) : Bool := !cutB side m.f m.t
def lostN (side : List Int) (ls : List M) : Nat := (ls.filter (fun m => cutB side m.f m.t)).length

set_option maxRecDepth 20000 in
set_option maxHeartbeats 2000000 in
theorem send_any {base p lb cap n : Nat} {bs : List Nat} {ms ls : List M} {side : List Int} {lost : Nat} (w : World) (h : Nt base w p bs ms side lost) (hr : Row w lb ls) (hn : ls.length = n) (hwf : ∀ m ∈ ls, m.wf) (hb : base ≤ w.heap.size) (hl : ms.length + n ≤ 1000000) (hlo : lost + n ≤ 1000000) :
    Calls Try.prog 10 #[.pointer (some ⟨p, 0, none⟩), .slice (some ⟨lb, 0, none⟩) n cap] w fun e w' => e = .returned (.tuple #[]) ∧ (∃ bs', Nt base w' p bs' (ms ++ ls.filter (passB side)) side (lost + lostN side ls) ∧ ∀ k ∈ bs', k ∈ bs ∨ w.heap.size ≤ k) ∧ Only base [53, 55] w w' := by
  have H := hide h
  have HR := hide hr
  have HN := hide hn
  have HWF := hide hwf
  clear h hr hn hwf
  go_enter Try.func10, Try.ntmps10
  go_wp2_with fail
  go_loopg [7] n (fun g iv wr => ∃ (k : Nat) (bs' : List Nat), k + g = n ∧ iv = .int .i64 (k : Int) ∧ Nt base wr p bs' (ms ++ (ls.take k).filter (passB side)) side (lost + lostN side (ls.take k)) ∧ (∀ j ∈ bs', j ∈ bs ∨ w.heap.size ≤ j) ∧ Only base [53, 55] w wr)
  case atStart => exact ⟨0, bs, by omega, rfl, by simpa [lostN] using unhide H, fun j hj => Or.inl hj, Only.refl _ _ _⟩
  case round =>
    obtain ⟨k, bs', hg, rfl, hnt, hfr, hon⟩ := hrel
    have hkn : k ≤ n := by omega
    by_cases hlt : k < n
    · obtain ⟨m, hm⟩ : ∃ m, ls[k]? = some m := ⟨_, List.getElem?_eq_getElem (by rw [unhide HN]; exact hlt)⟩
      have hs : ls.take (k + 1) = ls.take k ++ [m] := by rw [List.take_add_one, hm]; rfl
      have hrow := ((unhide HR).only hon (by decide)).at hm
      have hwf := unhide HWF m (List.mem_of_getElem? hm)
      have s2 : base ≤ wr.heap.size := Nat.le_trans hb hon.size
      obtain ⟨v, mv, p1, p2, p3, p4, p5⟩ := hnt
      have hml : (ms ++ (ls.take k).filter (passB side)).length ≤ 1000000 := by
        have := List.length_filter_le (passB side) (ls.take k)
        rw [List.length_take] at this
        simp only [List.length_append]; omega
      have hll : lostN side (ls.take k) ≤ k := by
        have := List.length_filter_le (fun m => cutB side m.f m.t) (ls.take k)
        rw [List.length_take] at this
        unfold lostN; omega
      have HG := hide hg
      have HO := hide hon
      have HFR := hide hfr
      have HM := hide hm
      have HS := hide hs
      have HROW := hide hrow
      have HW := hide hwf
      have P2 := hide p2
      have P3 := hide p3
      have P4 := hide p4
      have P5 := hide p5
      have HML := hide hml
      have C := cuts_any (base := base) (side := side) (mb := lb) (mo := k * 13) (f := m.f) (t := m.t) wr p2 p5 (hrow 0 _ rfl) (hrow 1 _ rfl) hwf.1 hwf.2
      have EC : Hid ((ls.take (k + 1)).filter (passB side) = (ls.take k).filter (passB side) ++ (if cutB side m.f m.t = true then [] else [m]) ∧ lostN side (ls.take (k + 1)) = lostN side (ls.take k) + (if cutB side m.f m.t = true then 1 else 0)) := by
        show _ ∧ _
        rw [hs]
        cases hc : cutB side m.f m.t <;> simp [lostN, passB, hc]
      clear hg hon hfr hm hs hrow hwf p2 p3 p4 p5 H hml HS
      obtain ⟨L, hL⟩ : ∃ L, lost + lostN side (ls.take k) = L := ⟨_, rfl⟩
      have hL' : L ≤ 1000000 := by omega
      rw [hL] at P2
      have HL := hide hL
      clear hL hll
      by_cases hcut : cutB side m.f m.t = true
      · rw [hcut] at C
        rw [if_pos hcut, if_pos hcut] at EC
        have HC := hide C
        clear C hcut
        go_wp2_with fail
        refine (unhide HC).mono ?_
        rintro e w1 ⟨rfl, b1⟩
        have q2 := (b1.block p (blk_lt' (unhide P2))).trans (unhide P2)
        have Q := hide (nt_lost (L + 1) p1 q2 ((unhide P3).below b1) ((unhide P4).below b1) ((unhide P5).below b1))
        have c2 : w1.cell? ⟨p, 2, none⟩ = some (.int .i64 (L : Int)) := (cell_of_block q2).trans rfl
        have f2 : w1.frozen? ⟨p, 2, none⟩ = false := free_of_block q2
        have B1 := hide b1
        clear q2 b1
        go_wp2
        go_roundg (n - (k + 1))
        case measure => have := unhide HG; omega
        case rel =>
          have e1 : ((L + 1 : Nat) : Int) = (L : Int) + 1 := by simp
          have Q' := unhide Q
          rw [e1] at Q'
          refine ⟨k + 1, bs', by omega, by go_num, ?_, unhide HFR, ((unhide HO).trans (Only.of_below (unhide B1) s2)).trans (Q'.2.mono (Nat.le_refl _) (by simp))⟩
          rw [(unhide EC).1, (unhide EC).2, List.append_nil, ← Nat.add_assoc, unhide HL]
          exact Q'.1
      · rw [Bool.not_eq_true] at hcut
        rw [hcut] at C
        rw [if_neg (by rw [hcut]; decide), if_neg (by rw [hcut]; decide)] at EC
        have HC := hide C
        clear C hcut
        go_wp2_with fail
        refine (unhide HC).mono ?_
        rintro e w1 ⟨rfl, b1⟩
        have q2 := (b1.block p (blk_lt' (unhide P2))).trans (unhide P2)
        have Q2 := hide q2
        have Q3 := hide ((unhide P3).below b1)
        have Q4 := hide ((unhide P4).below b1)
        have Q5 := hide ((unhide P5).below b1)
        have QR := hide ((unhide HROW).below b1)
        have c0 : w1.cell? ⟨p, 0, none⟩ = some v := (cell_of_block q2).trans rfl
        have f0 : w1.frozen? ⟨p, 0, none⟩ = false := free_of_block q2
        have s1 := Nat.le_trans s2 b1.size
        have KB := hide (Only.of_below (ts := [53, 55]) b1 s2)
        have hplt := blk_lt' q2
        clear q2 b1 P2 P3 P4 P5 HROW
        go_upto_region 5 with fail
        go_region_law (first
            | (refine step_copied (.tmp 29) rfl rfl lb (k * 13) m rfl (MAt.below (unhide QR) ((Below.refl _ w1).drew)) ?_
               intro w2 m2 b2 l2
               have b3 : Below w1.heap.size w1 w2 := ((Below.refl _ w1).drew).trans b2
               have M2 := hide m2
               have B2 := hide b3
               have c2 : w2.cell? ⟨p, 0, none⟩ = some v := by rw [b3.cell hplt]; exact c0
               have XA := hide (fun o => show (w2.alloc o).cell? ⟨p, 0, none⟩ = some v from by rw [((Below.refl w2.heap.size w2).alloc (Nat.le_refl _) o).cell (by have := b3.size; simp only; omega), b3.cell hplt]; exact c0)
               have cA := unhide XA (.cells #[.pointer (some ⟨w1.heap.size, 0, none⟩)] 55)
               have s3 : base ≤ (w2.alloc (.cells #[.pointer (some ⟨w1.heap.size, 0, none⟩)] 55)).heap.size := Nat.le_trans s1 (Nat.le_trans b3.size ((Below.refl w2.heap.size w2).alloc (Nat.le_refl _) _).size)
               clear m2 b2 b3)
            | (refine step_app (.tmp 26) (.tmp 31) rfl rfl ?_
               refine wp_push (.tmp 26) (.tmp 31) rfl base v bs' rfl ((unhide Q3).below ((unhide B2).alloc (unhide B2).size _)) w2.heap.size w1.heap.size rfl (new_cell w2 _ _) (by rw [(unhide Q4).1]; exact unhide HML) s3 ?_
               intro v5 w5 y5 o5
               obtain ⟨ao5, cap5, rfl, _, _⟩ := y5.slice
               have Y5 := hide y5
               have O5 := hide o5
               have c5 : w5.cell? ⟨p, 0, none⟩ = some v := by rw [o5.cells (((unhide B2).alloc (unhide B2).size _).block p hplt |>.trans (unhide Q2)) (by decide)]; exact unhide XA _
               have f5 : w5.frozen? ⟨p, 0, none⟩ = false := free_of_block (o5.block (((unhide B2).alloc (unhide B2).size _).block p hplt |>.trans (unhide Q2)) (by decide))
               clear y5 o5))
        all_goals
          have n5 := nt_way p1 ((unhide O5).block (((unhide B2).alloc (unhide B2).size _).block p hplt |>.trans (unhide Q2)) (by decide)) (unhide Y5)
            (Ms.snoc (m := m) (((unhide Q4).below ((unhide B2).alloc (unhide B2).size _)).only (unhide O5) (by decide)) s1 ((unhide O5).block (((Below.refl w2.heap.size w2).alloc (Nat.le_refl _) _).block w1.heap.size (blk_lt' (unhide M2)) |>.trans (unhide M2)) (by decide)))
            (((unhide Q5).below ((unhide B2).alloc (unhide B2).size _)).only (unhide O5))
          rw [show (bs' ++ [w1.heap.size]).length = bs'.length + 1 by simp] at n5
          have N5 := hide n5
          have K5 := hide (((unhide HO).trans (unhide KB)).trans ((Only.of_below ((unhide B2).alloc (unhide B2).size _) s1).trans ((unhide O5).mono (Nat.le_refl _) (by simp))))
          have HW1 : Hid (w.heap.size ≤ w1.heap.size) := Nat.le_trans (unhide HO).size (unhide KB).size
          clear n5 c0 f0 c2 cA XA c5 f5
        all_goals (
          go_wp2
          go_roundg (n - (k + 1))
          case measure => have := unhide HG; omega
          case rel =>
            refine ⟨k + 1, bs' ++ [w1.heap.size], by omega, by go_num, ?_, fun j hj => ?_, (unhide K5).trans ((unhide N5).2.mono (Nat.le_refl _) (by simp))⟩
            · rw [(unhide EC).1, (unhide EC).2, show lost + (lostN side (ls.take k) + 0) = L from unhide HL, ← List.append_assoc]
              exact (unhide N5).1
            · rcases List.mem_append.1 hj with h | h
              · exact unhide HFR j h
              · simp only [List.mem_singleton] at h; subst h; exact Or.inr (unhide HW1))
    · obtain rfl : k = n := by omega
      have et : ls.take k = ls := by rw [← unhide HN, List.take_length]
      rw [et] at hnt
      have HH := hide hnt
      have HF := hide hfr
      have HO := hide hon
      clear et hnt hfr hon
      go_wp2
      go_end0
      exact ⟨rfl, ⟨_, unhide HH, unhide HF⟩, unhide HO⟩
end Go.Proofs.Ytnplhoekkoomiaa
