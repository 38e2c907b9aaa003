/- The reference's take: contracts, case by case. -/
import Derived.Test.YtkanolmcaoecgaaLRStamp
namespace Go.Proofs.Ytkanolmcaoecgaa
open Go.RowKit

theorem Try.infoI : (Try.prog.info? 3).map (fun i => (i.zero, i.size, i.bytes)) = some (some (.int .i64 0), 1, 8) := by kernel_rfl
theorem infoInt' : ∃ i, Try.prog.info? 3 = some i ∧ i.zero = some (.int .i64 0) ∧ i.size = 1 ∧ i.bytes = 8 := by
  obtain ⟨i, hi, h⟩ := Option.map_eq_some_iff.1 Try.infoI
  simp only [Prod.mk.injEq] at h
  exact ⟨i, hi, h.1, h.2.1, h.2.2⟩
def nums (ns : List Nat) : List Value := ns.map fun n : Nat => Value.int .i64 (n : Int)
theorem nums_one (ns : List Nat) : ∀ u ∈ nums ns, u.oneCell' = true := fun u hu => by
  simp only [nums, List.mem_map] at hu; obtain ⟨x, _, rfl⟩ := hu; rfl
/-- append onto a row of the call's own, the source a row that may be nil. -/
theorem wpList_append_ints {w : World} {ops : Array Oper} {rest : List Oper} {o : Oper} {a : Act} {Q : Exit → Act → World → Prop} (hgd : o.guard = none) (s x : Operand)
    (ho : o.op = .call { callee := .builtin .append, args := #[s, x], argTypes := #[41, 41] }) (base b2 : Nat) (v : Value) (n : Nat) (xs : List Value) (hs : a.eval s = v) (hown : w.ownsRow base 3 1 v n xs)
    (sv : Value) (ys : List Nat) (hx : a.eval x = sv) (hsrc : w.ownsRow b2 3 1 sv ys.length (nums ys)) (hl : n + ys.length ≤ 1000000000000) (hb : base ≤ w.heap.size)
    (h : ∀ v' w', w'.ownsRow base 3 1 v' (n + ys.length) (xs ++ nums ys) → Below base w w' → wpList Try.prog ops Q rest (a.put o.dst v') w') :
    wpList Try.prog ops Q (o :: rest) a w := by
  obtain ⟨i0, hi, hz0, hz1, hz2⟩ := infoInt'
  rcases hsrc.2 with ⟨rfl, h0⟩ | ⟨g, cap, cur, rfl, hb2, hh, hc, hm, hs2, ht⟩
  · obtain rfl : ys = [] := List.eq_nil_of_length_eq_zero h0
    refine wpList_append_own_none hgd s x 41 ho base 3 i0 1 Try.underlying41 hi _ _ _ hs hown hx ?_
    exact h v w (by simpa [nums] using hown) (Below.refl _ _)
  · refine wpList_append_own _ hgd s x 41 ho base 3 i0 (.int .i64 0) 1 8 Try.underlying41 hi hz0 hz1 hz2 rfl (by decide) _ _ _ hs hown ⟨g, 0, none⟩ ys.length cap (nums ys) hx (by simp [nums]) (fun j u hj => ?_) (nums_one ys) (by unfold maxLen; omega) (by omega) hb ?_
    · rw [Addr.add_lit]
      have := (own_cell hsrc hj).1
      simpa using this
    · intro v' w' own' g' _
      exact h v' w' own' ((Below.refl _ _).grown g' hb (fun k hk => (own_tag hown k hk).1))

/-- a peer, stored cell by cell. -/
def setPr (w : World) (g o : Nat) (r : Pr) : World := ((((w.setCell ⟨g, o, none⟩ (.int .i64 r.id)).setCell ⟨g, o + 1, none⟩ (.int .i64 (r.life : Int))).setCell ⟨g, o + 2, none⟩ (.int .i64 (r.sent : Int))).setCell ⟨g, o + 3, none⟩ (.int .i64 (r.most : Int))).setCell ⟨g, o + 4, none⟩ r.nv
theorem Pw.put {base : Nat} {w : World} {g n cap : Nat} {ps : List Pr} (h : Pw base w (.slice (some ⟨g, 0, none⟩) n cap) ps) (hn : n = ps.length) {k : Nat} {r : Pr} (hk : ps[k]? = some r) (r' : Pr) : Pw base (setPr w g (k * 5) r') (.slice (some ⟨g, 0, none⟩) n cap) (ps.set k r') := by
  have hkl : k < ps.length := (List.getElem?_eq_some_iff.1 hk).1
  have s1 := h.set hn hk (r' := { r with id := r'.id }) (j := 0) (by decide) (u := .int .i64 r'.id) rfl
  have s2 := s1.set (by rw [List.length_set]; exact hn) (List.getElem?_set_self hkl) (r' := { r with id := r'.id, life := r'.life }) (j := 1) (by decide) (u := .int .i64 (r'.life : Int)) rfl
  rw [List.set_set] at s2
  have s3 := s2.set (by rw [List.length_set]; exact hn) (List.getElem?_set_self hkl) (r' := { r with id := r'.id, life := r'.life, sent := r'.sent }) (j := 2) (by decide) (u := .int .i64 (r'.sent : Int)) rfl
  rw [List.set_set] at s3
  have s4 := s3.set (by rw [List.length_set]; exact hn) (List.getElem?_set_self hkl) (r' := { r with id := r'.id, life := r'.life, sent := r'.sent, most := r'.most }) (j := 3) (by decide) (u := .int .i64 (r'.most : Int)) rfl
  rw [List.set_set] at s4
  have s5 := s4.set (by rw [List.length_set]; exact hn) (List.getElem?_set_self hkl) (r' := r') (j := 4) (by decide) (u := r'.nv) rfl
  rw [List.set_set] at s5
  exact s5
def Pr.arr (r : Pr) : Array Value := #[.int .i64 r.id, .int .i64 (r.life : Int), .int .i64 (r.sent : Int), .int .i64 (r.most : Int), r.nv]
theorem setPr_box {w : World} {B : Nat} {r' : Pr} {t : TypeId} {fr : Nat × Nat} (h : w.heap[B]? = some (.cells r'.arr t fr)) (r : Pr) : (setPr w B 0 r).heap[B]? = some (.cells r.arr t fr) := by
  unfold setPr
  rw [setCell_block (setCell_block (setCell_block (setCell_block (setCell_block h))))]; rfl
theorem setPr_other {w : World} {g o k : Nat} (hk : k ≠ g) (r : Pr) : (setPr w g o r).heap[k]? = w.heap[k]? := by
  unfold setPr
  rw [Below.heap_setCell _ ⟨g, o + 4, none⟩ _ k hk, Below.heap_setCell _ ⟨g, o + 3, none⟩ _ k hk, Below.heap_setCell _ ⟨g, o + 2, none⟩ _ k hk, Below.heap_setCell _ ⟨g, o + 1, none⟩ _ k hk, Below.heap_setCell _ ⟨g, o, none⟩ _ k hk]
theorem setPr_below {w : World} {g o base : Nat} (hb : base ≤ g) (r : Pr) : Below base w (setPr w g o r) := by
  unfold setPr
  exact (((((Below.refl base w).setCell (p := ⟨g, o, none⟩) hb _).setCell (p := ⟨g, o + 1, none⟩) hb _).setCell (p := ⟨g, o + 2, none⟩) hb _).setCell (p := ⟨g, o + 3, none⟩) hb _).setCell (p := ⟨g, o + 4, none⟩) hb _
theorem setPr_size (w : World) (g o : Nat) (r : Pr) : (setPr w g o r).heap.size = w.heap.size := by
  unfold setPr
  rw [setCell_size, setCell_size, setCell_size, setCell_size, setCell_size]
theorem box_peer (w : World) (r : Pr) : ∃ W, w.alloc (.cells r.arr 55) = W ∧ W.heap[w.heap.size]? = some (.cells r.arr 55 (0, 0)) ∧ Below w.heap.size w W ∧ W.heap.size = w.heap.size + 1 :=
  ⟨_, rfl, heap_alloc_new _ _, (Below.refl _ w).alloc (Nat.le_refl _) _, World.size_alloc _ _⟩

theorem takeX_arg {x : Nat} (id l n : Int) (w : World) (hA : l < 1 ∨ n < 1) :
    Calls Try.prog 22 #[.pointer (some ⟨x, 0, none⟩), .int .i64 id, .int .i64 l, .int .i64 n] w fun e w' => e = .returned (.int .i64 1) ∧ w' = w := by
  by_cases h1 : l < 1
  · clear hA
    go_enter Try.func22, Try.ntmps22
    go_wp2
    go_ret
    exact ⟨rfl, rfl⟩
  · have h2 : n < 1 := by omega
    clear hA
    go_enter Try.func22, Try.ntmps22
    go_wp2
    go_ret
    exact ⟨rfl, rfl⟩

theorem ns_some {w : World} {base : Nat} {ao : Option Addr} {n cap i : Nat} {xs : List Value} (h : w.ownsRow base 3 1 (.slice ao n cap) n xs) (hi : i < n) : ∃ g, ao = some ⟨g, 0, none⟩ := by
  rcases h.2 with ⟨_, rfl⟩ | ⟨g, cap', cur, hv, _⟩
  · omega
  · cases hv; exact ⟨g, rfl⟩

set_option maxRecDepth 20000 in
set_option maxHeartbeats 1000000 in
theorem takeX_stale {base x : Nat} {v : Value} {life : Int} {ref : Nat} {ps : List Pr} (id : Int) (l n : Nat) (w : World) (h : Xk base w x v life ref ps) (hl : ps.length ≤ 1000) (hbase : base ≤ w.heap.size) (r : Pr) (hr : look ps id = r) (_hr1 : r.life < 9223372036854775808) (_hr2 : r.most < 9223372036854775808) (hl1 : 1 ≤ l) (hl2 : l < 9223372036854775808) (hn1 : 1 ≤ n) (hn2 : n < 9223372036854775808) (hs : l < r.life) :
    Calls Try.prog 22 #[.pointer (some ⟨x, 0, none⟩), .int .i64 id, .int .i64 (l : Int), .int .i64 (n : Int)] w fun e w' => e = .returned (.int .i64 19) ∧ (∃ v', Xk base w' x v' life ref (more ps id)) ∧ Only base [30, 55] w w' := by
  have AT := hide (at_any id w h (by omega) hbase)
  have hmk := more_get id ps
  have hid := look_id id ps
  obtain ⟨ps1, hps1⟩ : ∃ ps1, more ps id = ps1 := ⟨_, rfl⟩
  obtain ⟨k, hk⟩ : ∃ k, pos ps id = k := ⟨_, rfl⟩
  rw [hps1, hk] at AT
  rw [hps1, hk, hr] at hmk
  rw [hr] at hid
  rw [hps1]
  have HMK := hide hmk
  have HID := hide hid
  clear hps1 hk hr hmk h hid
  have lI : ¬ (l : Int) < 1 := by omega
  have nI : ¬ (n : Int) < 1 := by omega
  go_enter Try.func22, Try.ntmps22
  go_wp2_with fail
  refine (unhide AT).mono ?_
  rintro e w1 ⟨rfl, ⟨v1, x1⟩, o1⟩
  obtain ⟨g, m, cap, rfl, hn, hkn, hc, hm, hgx, hbg, ⟨cs, hcs⟩, hp⟩ := x1.open (unhide HMK)
  have X1 := hide x1
  obtain ⟨hbx, hx, _, hns⟩ := x1
  have hkI : (k : Int) < (m : Int) := by omega
  have c2 : w1.cell? ⟨x, 2, none⟩ = some (.slice (some ⟨g, 0, none⟩) m cap) := bcell hx rfl
  have e0 : w1.cell? ⟨g, k * 5, none⟩ = some (.int .i64 r.id) := (hp.cell hn.symm (unhide HMK) (j := 0) rfl).1
  have e1 : w1.cell? ⟨g, k * 5 + 1, none⟩ = some (.int .i64 (r.life : Int)) := (hp.cell hn.symm (unhide HMK) (j := 1) rfl).1
  have e2 : w1.cell? ⟨g, k * 5 + 2, none⟩ = some (.int .i64 (r.sent : Int)) := (hp.cell hn.symm (unhide HMK) (j := 2) rfl).1
  have e3 : w1.cell? ⟨g, k * 5 + 3, none⟩ = some (.int .i64 (r.most : Int)) := (hp.cell hn.symm (unhide HMK) (j := 3) rfl).1
  have e4 : w1.cell? ⟨g, k * 5 + 4, none⟩ = some r.nv := (hp.cell hn.symm (unhide HMK) (j := 4) rfl).1
  have hnr := hns r (List.mem_of_getElem? (unhide HMK))
  obtain ⟨ao, cn, hnv, hcn, hcm⟩ := own_slice hnr
  obtain ⟨V, hV, v1, bV, sV⟩ := box_peer w1 r
  obtain ⟨B, hB⟩ : ∃ B, w1.heap.size = B := ⟨_, rfl⟩
  have hV' : w1.alloc (.cells #[.int .i64 r.id, .int .i64 (r.life : Int), .int .i64 (r.sent : Int), .int .i64 (r.most : Int), .slice ao r.ns.length cn] 55) = V := by rw [← hnv]; exact hV
  rw [hnv] at e4
  rw [hB] at v1 sV
  have d1 : V.cell? ⟨B, 1, none⟩ = some (.int .i64 (r.life : Int)) := bcell v1 rfl
  have d2 : V.cell? ⟨B, 2, none⟩ = some (.int .i64 (r.sent : Int)) := bcell v1 rfl
  have d3 : V.cell? ⟨B, 3, none⟩ = some (.int .i64 (r.most : Int)) := bcell v1 rfl
  have d4 : V.cell? ⟨B, 4, none⟩ = some (.slice ao r.ns.length cn) := by rw [← hnv]; exact bcell v1 rfl
  have hoV : Only base [30, 55] w V := o1.trans (Only.of_below bV (Nat.le_trans hbase o1.size))
  have hgB : g < B := by rw [← hB]; exact blk_lt' hcs
  have hxB : x < B := by rw [← hB]; exact blk_lt' hx
  have hBw : w.heap.size ≤ B := by rw [← hB]; exact o1.size
  have XV := hide ((unhide X1).below bV)
  have HV := hide hV'
  have HB := hide hB
  have OV := hide hoV
  have V1 := hide v1
  have NR : Hid (V.ownsRow base 3 1 (.slice ao r.ns.length cn) r.ns.length (nums r.ns)) := by rw [← hnv]; exact own_below hnr bV
  have NV := hide hnv
  clear hx hns hp hcs o1 hnr hV hV' v1 bV hB hoV hnv X1 AT
  go_upto_region 5 with fail
  rw [unhide HV, unhide HB]
  clear HV HB e0 e1 e2 e3 e4 c2
  have hsI : (l : Int) < (r.life : Int) := by omega
  go_wp2
  go_ret
  exact ⟨rfl, ⟨_, unhide XV⟩, unhide OV⟩

set_option maxRecDepth 20000 in
set_option maxHeartbeats 1000000 in
theorem takeX_known {base x : Nat} {v : Value} {life : Int} {ref : Nat} {ps : List Pr} (id : Int) (l n : Nat) (w : World) (h : Xk base w x v life ref ps) (hl : ps.length ≤ 1000) (hbase : base ≤ w.heap.size) (r : Pr) (hr : look ps id = r) (_hr1 : r.life < 9223372036854775808) (hr2 : r.most < 9223372036854775808) (hl1 : 1 ≤ l) (hl2 : l < 9223372036854775808) (hn1 : 1 ≤ n) (hn2 : n < 9223372036854775808) (hs : r.life = l) (hk : n + 256 ≤ r.most ∨ n ∈ r.ns) (hnl : r.ns.length ≤ 1000) :
    Calls Try.prog 22 #[.pointer (some ⟨x, 0, none⟩), .int .i64 id, .int .i64 (l : Int), .int .i64 (n : Int)] w fun e w' => e = .returned (.int .i64 7) ∧ (∃ v', Xk base w' x v' life ref (more ps id)) ∧ Only base [30, 55] w w' := by
  have hkk := hide hk
  have HS := hide hs
  clear hk hs
  have AT := hide (at_any id w h (by omega) hbase)
  have hmk := more_get id ps
  have hid := look_id id ps
  obtain ⟨ps1, hps1⟩ : ∃ ps1, more ps id = ps1 := ⟨_, rfl⟩
  obtain ⟨k, hk⟩ : ∃ k, pos ps id = k := ⟨_, rfl⟩
  rw [hps1, hk] at AT
  rw [hps1, hk, hr] at hmk
  rw [hr] at hid
  rw [hps1]
  have HMK := hide hmk
  have HID := hide hid
  clear hps1 hk hr hmk h hid
  have lI : ¬ (l : Int) < 1 := by omega
  have nI : ¬ (n : Int) < 1 := by omega
  go_enter Try.func22, Try.ntmps22
  go_wp2_with fail
  refine (unhide AT).mono ?_
  rintro e w1 ⟨rfl, ⟨v1, x1⟩, o1⟩
  obtain ⟨g, m, cap, rfl, hn, hkn, hc, hm, hgx, hbg, ⟨cs, hcs⟩, hp⟩ := x1.open (unhide HMK)
  have X1 := hide x1
  obtain ⟨hbx, hx, _, hns⟩ := x1
  have hkI : (k : Int) < (m : Int) := by omega
  have c2 : w1.cell? ⟨x, 2, none⟩ = some (.slice (some ⟨g, 0, none⟩) m cap) := bcell hx rfl
  have e0 : w1.cell? ⟨g, k * 5, none⟩ = some (.int .i64 r.id) := (hp.cell hn.symm (unhide HMK) (j := 0) rfl).1
  have e1 : w1.cell? ⟨g, k * 5 + 1, none⟩ = some (.int .i64 (r.life : Int)) := (hp.cell hn.symm (unhide HMK) (j := 1) rfl).1
  have e2 : w1.cell? ⟨g, k * 5 + 2, none⟩ = some (.int .i64 (r.sent : Int)) := (hp.cell hn.symm (unhide HMK) (j := 2) rfl).1
  have e3 : w1.cell? ⟨g, k * 5 + 3, none⟩ = some (.int .i64 (r.most : Int)) := (hp.cell hn.symm (unhide HMK) (j := 3) rfl).1
  have e4 : w1.cell? ⟨g, k * 5 + 4, none⟩ = some r.nv := (hp.cell hn.symm (unhide HMK) (j := 4) rfl).1
  have hnr := hns r (List.mem_of_getElem? (unhide HMK))
  obtain ⟨ao, cn, hnv, hcn, hcm⟩ := own_slice hnr
  obtain ⟨V, hV, v1, bV, sV⟩ := box_peer w1 r
  obtain ⟨B, hB⟩ : ∃ B, w1.heap.size = B := ⟨_, rfl⟩
  have hV' : w1.alloc (.cells #[.int .i64 r.id, .int .i64 (r.life : Int), .int .i64 (r.sent : Int), .int .i64 (r.most : Int), .slice ao r.ns.length cn] 55) = V := by rw [← hnv]; exact hV
  rw [hnv] at e4
  rw [hB] at v1 sV
  have d1 : V.cell? ⟨B, 1, none⟩ = some (.int .i64 (r.life : Int)) := bcell v1 rfl
  have d2 : V.cell? ⟨B, 2, none⟩ = some (.int .i64 (r.sent : Int)) := bcell v1 rfl
  have d3 : V.cell? ⟨B, 3, none⟩ = some (.int .i64 (r.most : Int)) := bcell v1 rfl
  have d4 : V.cell? ⟨B, 4, none⟩ = some (.slice ao r.ns.length cn) := by rw [← hnv]; exact bcell v1 rfl
  have hoV : Only base [30, 55] w V := o1.trans (Only.of_below bV (Nat.le_trans hbase o1.size))
  have hgB : g < B := by rw [← hB]; exact blk_lt' hcs
  have hxB : x < B := by rw [← hB]; exact blk_lt' hx
  have hBw : w.heap.size ≤ B := by rw [← hB]; exact o1.size
  have XV := hide ((unhide X1).below bV)
  have HV := hide hV'
  have HB := hide hB
  have OV := hide hoV
  have V1 := hide v1
  have NR : Hid (V.ownsRow base 3 1 (.slice ao r.ns.length cn) r.ns.length (nums r.ns)) := by rw [← hnv]; exact own_below hnr bV
  have NV := hide hnv
  clear hx hns hp hcs o1 hnr hV hV' v1 bV hB hoV hnv X1 AT
  go_upto_region 5 with fail
  rw [unhide HV, unhide HB]
  clear HV HB e0 e1 e2 e3 e4 c2
  have hsI : (r.life : Int) = (l : Int) := by have := unhide HS; omega
  rw [hsI] at d1
  clear hsI
  by_cases hfar : n + 256 ≤ r.most
  · have m1 : (256 : Int) ≤ (r.most : Int) := by omega
    have m2 : (n : Int) ≤ (r.most : Int) - 256 := by omega
    go_wp2
    go_ret
    exact ⟨rfl, ⟨_, unhide XV⟩, unhide OV⟩
  · have hin : n ∈ r.ns := by
      rcases unhide hkk with h | h
      · exact absurd h hfar
      · exact h
    have far := hide hfar
    obtain ⟨N, hN⟩ : ∃ N, r.ns.length = N := ⟨_, rfl⟩
    have HN := hide hN
    rw [hN] at d4 NR hnl
    have HIN := hide hin
    clear hfar hin hN
    by_cases m1 : (256 : Int) ≤ (r.most : Int)
    · have m2 : ¬ (n : Int) ≤ (r.most : Int) - 256 := by have := unhide far; omega
      go_upto_region 12 with fail
      go_loopg [11] N (fun gg iv wr => ∃ i : Nat, i + gg = N ∧ iv = .int .i64 (i : Int) ∧ wr = V ∧ ∀ j, j < i → r.ns[j]? ≠ some n)
      case atStart => exact ⟨0, by omega, rfl, rfl, fun j hj => absurd hj (by omega)⟩
      case round =>
        obtain ⟨i, hgi, rfl, rfl, hne⟩ := hrel
        by_cases hlt : i < N
        · obtain ⟨y, hy⟩ : ∃ y, r.ns[i]? = some y := ⟨_, List.getElem?_eq_getElem (by rw [unhide HN]; exact hlt)⟩
          have hyv : (nums r.ns)[i]? = some (.int .i64 (y : Int)) := by rw [nums, List.getElem?_map, hy]; rfl
          obtain ⟨gn, rfl⟩ := ns_some (unhide NR) hlt
          have cy : wr.cell? ⟨gn, i, none⟩ = some (.int .i64 (y : Int)) := (own_cell (unhide NR) hyv).1
          have hiI : (i : Int) < (N : Int) := by omega
          have HG := hide hgi
          have HE := hide hne
          have HY := hide hy
          by_cases e : y = n
          · have eI : ((y : Int) == (n : Int)) = true := by simp [e]
            clear hgi hne hy hyv e
            go_wp2
            go_ret
            exact ⟨rfl, ⟨_, unhide XV⟩, unhide OV⟩
          · have eI : ((y : Int) == (n : Int)) = false := by simp; omega
            have HYN := hide e
            clear hgi hne hy hyv e
            go_wp2
            go_roundg (N - (i + 1))
            case measure => have := unhide HG; omega
            case rel =>
              refine ⟨i + 1, by omega, by go_num, rfl, fun j hj hq => ?_⟩
              by_cases e : j = i
              · subst e; rw [unhide HY] at hq; cases hq; exact unhide HYN rfl
              · exact unhide HE j (by omega) hq
        · exfalso
          obtain ⟨j, hj⟩ := List.getElem?_of_mem (unhide HIN)
          have hjl := (List.getElem?_eq_some_iff.1 hj).1
          rw [unhide HN] at hjl
          exact hne j (by omega) hj
    · go_upto_region 12 with fail
      go_loopg [11] N (fun gg iv wr => ∃ i : Nat, i + gg = N ∧ iv = .int .i64 (i : Int) ∧ wr = V ∧ ∀ j, j < i → r.ns[j]? ≠ some n)
      case atStart => exact ⟨0, by omega, rfl, rfl, fun j hj => absurd hj (by omega)⟩
      case round =>
        obtain ⟨i, hgi, rfl, rfl, hne⟩ := hrel
        by_cases hlt : i < N
        · obtain ⟨y, hy⟩ : ∃ y, r.ns[i]? = some y := ⟨_, List.getElem?_eq_getElem (by rw [unhide HN]; exact hlt)⟩
          have hyv : (nums r.ns)[i]? = some (.int .i64 (y : Int)) := by rw [nums, List.getElem?_map, hy]; rfl
          obtain ⟨gn, rfl⟩ := ns_some (unhide NR) hlt
          have cy : wr.cell? ⟨gn, i, none⟩ = some (.int .i64 (y : Int)) := (own_cell (unhide NR) hyv).1
          have hiI : (i : Int) < (N : Int) := by omega
          have HG := hide hgi
          have HE := hide hne
          have HY := hide hy
          by_cases e : y = n
          · have eI : ((y : Int) == (n : Int)) = true := by simp [e]
            clear hgi hne hy hyv e
            go_wp2
            go_ret
            exact ⟨rfl, ⟨_, unhide XV⟩, unhide OV⟩
          · have eI : ((y : Int) == (n : Int)) = false := by simp; omega
            have HYN := hide e
            clear hgi hne hy hyv e
            go_wp2
            go_roundg (N - (i + 1))
            case measure => have := unhide HG; omega
            case rel =>
              refine ⟨i + 1, by omega, by go_num, rfl, fun j hj hq => ?_⟩
              by_cases e : j = i
              · subst e; rw [unhide HY] at hq; cases hq; exact unhide HYN rfl
              · exact unhide HE j (by omega) hq
        · exfalso
          obtain ⟨j, hj⟩ := List.getElem?_of_mem (unhide HIN)
          have hjl := (List.getElem?_eq_some_iff.1 hj).1
          rw [unhide HN] at hjl
          exact hne j (by omega) hj
end Go.Proofs.Ytkanolmcaoecgaa
