/- cells.listed: the cells of a map, by number: a contract. -/
import Derived.Test.YtnagfoclbdlenaaGreatDoorCMap
import Derived.Test.YtnagfoclbdlenaaGreatDoorSplitW
import Derived.Test.YtnagfoclbdlenaaGreatDoorTTape
namespace Go.Proofs.YtnagfoclbdlenaaGreatDoor
open Go.RowKit Go.Maps Go.Sort

/-- the numbers that have something, rising; the cells. -/
def keysOf (f : Int → List Nat) : List Int := ([0, 1, 2, 3, 4, 5, 6, 7] : List Int).filter fun n => !(f n).isEmpty
def cellsOf (f : Int → List Nat) : List (Int × List Nat) := (keysOf f).map fun n => (n, f n)
theorem keys_mem {f : Int → List Nat} {x : Int} : x ∈ keysOf f ↔ (0 ≤ x ∧ x < 8) ∧ f x ≠ [] := by
  unfold keysOf
  rw [List.mem_filter]
  have e : x ∈ ([0, 1, 2, 3, 4, 5, 6, 7] : List Int) ↔ 0 ≤ x ∧ x < 8 := by
    simp only [List.mem_cons, List.not_mem_nil, or_false]; omega
  rw [e]
  simp
theorem keys_len (f : Int → List Nat) : (keysOf f).length ≤ 8 := List.length_filter_le _ _
theorem keys_nodup (f : Int → List Nat) : (keysOf f).Nodup := List.Pairwise.filter _ (show List.Pairwise (· ≠ ·) ([0, 1, 2, 3, 4, 5, 6, 7] : List Int) by decide)
theorem keys_rise (f : Int → List Nat) : (keysOf f).Pairwise (fun x y => decide (x ≤ y) = true) := List.Pairwise.filter _ (by decide)
/-- the map's keys, sorted. -/
theorem Hv.sorted {base : Nat} {w : World} {b c : Nat} {f : Int → List Nat} {D : DataW Value} (ho : w.ownsMap Tryz.prog 3 asIs b c D) (h2 : ∀ x, f x ≠ [] → 0 ≤ x ∧ x < 8) (h3 : ∀ x, Has base w D x (f x)) {ss : List Int} (hp : ss.Perm (intKeys D)) :
    ss.mergeSort (fun x y => decide (x ≤ y)) = keysOf f ∧ ss.length = (keysOf f).length := by
  have hc : CollectedI D (fun _ => false) (keysOf f) := by
    refine ⟨keys_nodup f, fun x => ?_⟩
    rw [keys_mem]
    rcases h3 x with ⟨e1, e2, _⟩ | ⟨e1, e2, _⟩
    · simp [e1, e2]
    · have := h2 x e1
      simp [e1, e2, this]
  have h := hc.perm ho keyed Tryz.underlying3 (fun _ => rfl)
  have hq : ss.Perm (keysOf f) := hp.trans h.symm
  refine ⟨?_, hq.length_eq⟩
  rw [mergeSort_of_perm_i hq]
  exact List.mergeSort_of_pairwise (keys_rise f)

/-- a row of cells of the call's own. -/
def CRow (base : Nat) (w : World) (v : Value) (l : List (Int × List Nat)) : Prop :=
  ∃ xs, w.ownsRow base 40 2 v l.length xs ∧ ∀ (i : Nat) (n : Int) (bs : List Nat), l[i]? = some (n, bs) → ∃ d, xs[i * 2]? = some (.int .i64 n) ∧ xs[i * 2 + 1]? = some d ∧ Own base w d bs
theorem Tryz.infoCellA : (Tryz.prog.info? 40).map (fun i => (i.zero, i.size, i.bytes)) = some (some (.agg #[.int .i64 0, .slice none 0 0]), 2, 32) := by kernel_rfl
theorem infoCell : ∃ i, Tryz.prog.info? 40 = some i ∧ i.zero = some (.agg #[.int .i64 0, .slice none 0 0]) ∧ i.size = 2 ∧ i.bytes = 32 := by
  obtain ⟨i, hi, h⟩ := Option.map_eq_some_iff.1 Tryz.infoCellA
  simp only [Prod.mk.injEq] at h
  exact ⟨i, hi, h.1, h.2.1, h.2.2⟩
/-- one cell more. -/
theorem CRow.push {base : Nat} {w w' : World} {v v' d : Value} {l : List (Int × List Nat)} {xs : List Value} {k : Nat} {n : Int} {bs : List Nat} (hl : l.length = k) (h : w.ownsRow base 40 2 v k xs) (hx : ∀ (i : Nat) (n : Int) (bs : List Nat), l[i]? = some (n, bs) → ∃ d, xs[i * 2]? = some (.int .i64 n) ∧ xs[i * 2 + 1]? = some d ∧ Own base w d bs)
    (hd : Own base w d bs) (h' : w'.ownsRow base 40 2 v' (k + 1) (xs ++ [.int .i64 n, d])) (hg : w.grownBy w' v.ownBlock) : CRow base w' v' (l ++ [(n, bs)]) := by
  have hlx : xs.length = k * 2 := h.1
  have hkeep : ∀ u cs, Own base w u cs → Own base w' u cs := fun u cs hu => ⟨own_kept hu.1 fun j hj => hg.block j (hu.1.lt j hj).2 (fun e => by
    obtain ⟨_, cur, fr, hc⟩ := own_tag h j e.symm
    obtain ⟨_, cur', fr', hc'⟩ := own_tag hu.1 j hj
    rw [hc] at hc'; cases hc'), hu.2⟩
  refine ⟨_, by rw [List.length_append, hl]; exact h', fun i m cs hi => ?_⟩
  by_cases e : i < l.length
  · rw [List.getElem?_append_left e] at hi
    obtain ⟨u, u1, u2, u3⟩ := hx i m cs hi
    exact ⟨u, by rw [List.getElem?_append_left (by omega)]; exact u1, by rw [List.getElem?_append_left (by omega)]; exact u2, hkeep u cs u3⟩
  · rw [List.getElem?_append_right (by omega)] at hi
    have hi0 : i = l.length := by have := (List.getElem?_eq_some_iff.1 hi).1; simp at this; omega
    subst hi0
    simp at hi
    obtain ⟨rfl, rfl⟩ := hi
    refine ⟨d, ?_, ?_, hkeep d bs hd⟩
    · rw [List.getElem?_append_right (by omega), show l.length * 2 - xs.length = 0 by omega]; rfl
    · rw [List.getElem?_append_right (by omega), show l.length * 2 + 1 - xs.length = 1 by omega]; rfl
theorem row_int {w : World} {base g n cap : Nat} {ks : List Int} (h : w.ownsRow base 3 1 (.slice (some ⟨g, 0, none⟩) n cap) n (ks.map encZ)) {i : Nat} {x : Int} (hi : ks[i]? = some x) : w.cell? ⟨g, i, none⟩ = some (.int .i64 x) := by
  rcases h.2 with ⟨h0, _⟩ | ⟨g', cap', cur, hv, hb, hh, hc, hm, hs, ht⟩
  · cases h0
  · cases hv
    have hil : i < n := by have := (List.getElem?_eq_some_iff.1 hi).1; have := h.1; simp at this; omega
    have h1 : (cur.toList.take (n * 1))[i]? = (ks.map encZ)[i]? := by rw [ht]
    rw [List.getElem?_take_of_lt (by omega), List.getElem?_map, hi] at h1
    rw [cell_of_block hh, ← Array.getElem?_toList, h1]; rfl
theorem cell_one (n : Int) (d : Value) (hd : d.oneCell' = true) : ∀ u ∈ [Value.int .i64 n, d], u.oneCell' = true := fun u hu => by
  simp only [List.mem_cons, List.not_mem_nil, or_false] at hu
  rcases hu with rfl | rfl
  · rfl
  · exact hd

set_option maxRecDepth 20000 in
set_option maxHeartbeats 1000000 in
theorem listed_any {base b c : Nat} {f : Int → List Nat} (w : World) (h : Hv base w b f c) (hc : c ≤ 1000000) (hlen : ∀ x, (f x).length ≤ 1000000) :
    Calls Tryz.prog 34 #[.map (some b)] w fun e w' => ∃ v, e = .returned v ∧ CRow w.heap.size w' v (cellsOf f) ∧ Below w.heap.size w w' := by
  obtain ⟨hb, D, ho, h2, h3⟩ := id h
  have HH := hide h
  have KA := hide (keys_any (some b) w)
  obtain ⟨W, hW⟩ : ∃ W, w.alloc (.cells #[.map (some b)] 62) = W := ⟨_, rfl⟩
  have bW : Below w.heap.size w W := by rw [← hW]; exact (Below.refl _ w).alloc (Nat.le_refl _) _
  have xW : W.heap[w.heap.size]? = some (.cells #[.map (some b)] 62 (0, 0)) := by rw [← hW]; exact heap_alloc_new _ _
  have hoW : W.ownsMap Tryz.prog 3 asIs b c D := by obtain ⟨es, cl, e1, e2⟩ := ho; exact ⟨es, cl, (bW.block b (blk_lt' e1)).trans e1, e2⟩
  have SO := hide (sorted_any w.heap.size b c D asIs W xW hoW (Nat.le_trans hoW.size_le hc))
  have SD := hide (fun (ss : List Int) (hp : ss.Perm (intKeys D)) => Hv.sorted ho h2 h3 hp)
  have BW := hide bW
  have HW := hide hW
  have HL := hide hlen
  clear ho h2 h3 hW bW xW hoW h hlen
  go_enter Tryz.func34, Tryz.ntmps34
  go_wp2_with fail
  refine (unhide KA).mono ?_
  rintro e w1 ⟨rfl, rfl⟩
  rw [unhide HW]
  go_wp2_with fail
  refine (unhide SO).mono ?_
  rintro e w2 ⟨kv, ss, rfl, hp, hrow, hnil, b2⟩
  obtain ⟨hs1, hs2⟩ := unhide SD ss hp
  rw [hs1, hs2] at hrow
  have B2 := hide ((unhide BW).trans (b2.mono (unhide BW).size))
  obtain ⟨ao, cap, rfl, hcap, hcm⟩ : ∃ ao cap, kv = .slice ao (keysOf f).length cap ∧ (keysOf f).length ≤ cap ∧ cap ≤ maxLen := by
    rcases hrow.2 with ⟨e1, e2⟩ | ⟨g, cap, cur, e1, _, _, e3, e4, _⟩
    · exact ⟨none, 0, by rw [e2]; exact e1, by omega, by decide⟩
    · exact ⟨_, cap, e1, e3, e4⟩
  obtain ⟨n, hn⟩ : ∃ n, (keysOf f).length = n := ⟨_, rfl⟩
  have hn8 : n ≤ 8 := by rw [← hn]; exact keys_len f
  rw [hn] at hrow hcap ⊢
  have s2 := (unhide B2).size
  have hsW := (unhide BW).size
  have R0 : Hid (w2.ownsRow w.heap.size 3 1 (.slice ao n cap) n ((keysOf f).map encZ)) := by
    refine ⟨hrow.1, ?_⟩
    rcases hrow.2 with e0 | ⟨g, cap', cur, e1, e2, e3⟩
    · exact Or.inl e0
    · exact Or.inr ⟨g, cap', cur, e1, Nat.le_trans hsW e2, e3⟩
  have HN := hide hn
  clear hs1 hs2 hrow hnil b2 hp SO SD KA HW hn
  go_upto_region 3 with fail
  go_loopg [3, 10] n (fun gg lv iv wr => ∃ k : Nat, k + gg = n ∧ iv = .int .i64 (k : Int) ∧ CRow w.heap.size wr lv ((cellsOf f).take k) ∧ wr.ownsRow w.heap.size 3 1 (.slice ao n cap) n ((keysOf f).map encZ) ∧ Below w.heap.size w wr)
  case atStart => exact ⟨0, by omega, rfl, ⟨[], ⟨rfl, Or.inl ⟨rfl, rfl⟩⟩, fun i n bs h => by simp at h⟩, unhide R0, unhide B2⟩
  case round =>
    obtain ⟨k, hgk, rfl, hcr, hro, hlow⟩ := hrel
    have hsz := hlow.size
    by_cases hlt : k < n
    · obtain ⟨x, hx⟩ : ∃ x, (keysOf f)[k]? = some x := ⟨_, List.getElem?_eq_getElem (by rw [unhide HN]; exact hlt)⟩
      have hkI : (k : Int) < (n : Int) := by omega
      obtain ⟨g, rfl⟩ : ∃ g, ao = some ⟨g, 0, none⟩ := by
        rcases hro.2 with ⟨_, e2⟩ | ⟨g, cap', cur, e1, _⟩
        · omega
        · cases e1; exact ⟨g, rfl⟩
      have ck : wr.cell? ⟨g, k, none⟩ = some (.int .i64 x) := row_int hro hx
      have hxm := keys_mem.1 (List.mem_of_getElem? hx)
      have hvr := (unhide HH).below hlow
      obtain ⟨v, hlook, hval⟩ := hvr.look (wf_small64 (by omega : -1000000 ≤ x ∧ x ≤ 1000000))
      have hov : Own base wr v (f x) := by
        rcases hval with ⟨e, _⟩ | ⟨_, e⟩
        · exact absurd e hxm.2
        · exact e
      have lk := hlook wr rfl
      obtain ⟨va, vc, rfl, hvl, hvm, hvb, hvn, hvs⟩ := hov.slice
      obtain ⟨m, hm⟩ : ∃ m, (f x).length = m := ⟨_, rfl⟩
      obtain ⟨aa, rfl⟩ : ∃ aa, va = some aa := by
        cases va with
        | some aa => exact ⟨aa, rfl⟩
        | none => exact absurd (List.eq_nil_of_length_eq_zero (by have := hvn rfl; omega)) hxm.2
      have CL := clone_some aa m vc (f x) hm wr hvb (by have := unhide HL x; omega)
      rw [hm] at lk
      have HCL := hide CL
      have HCR := hide hcr
      have HRO := hide hro
      have HLO := hide hlow
      have HG := hide hgk
      have HTK : Hid ((cellsOf f).take (k + 1) = (cellsOf f).take k ++ [(x, f x)]) := by
        show _ = _
        have e : (cellsOf f)[k]? = some (x, f x) := by unfold cellsOf; rw [List.getElem?_map, hx]; rfl
        rw [List.take_add_one, e]; rfl
      have HTL : Hid (((cellsOf f).take k).length = k) := by
        show _ = _
        rw [List.length_take, cellsOf, List.length_map, unhide HN]; omega
      clear hx hxm hvr hlook hval hov hvb hvs hm CL hcr hro hlow hgk
      go_wp2_with fail
      refine (unhide HCL).mono ?_
      rintro e w4 ⟨dv, rfl, od, b4⟩
      obtain ⟨da, dc, rfl, hdl, hdm, _⟩ := od.slice
      have od' := od.rebase hsz
      obtain ⟨md, hmd⟩ : ∃ md, (f x).length = md := ⟨_, rfl⟩
      rw [hmd] at od' ⊢
      obtain ⟨xs, ho, hxs⟩ := unhide HCR
      rw [unhide HTL] at ho
      have ho4 := own_below ho b4
      obtain ⟨W5, hW5⟩ : ∃ W5, w4.alloc (.cells #[.int .i64 x, .slice da md dc] 40) = W5 := ⟨_, rfl⟩
      have b5 : Below w4.heap.size w4 W5 := by rw [← hW5]; exact (Below.refl _ w4).alloc (Nat.le_refl _) _
      have ho5 := own_below ho4 b5
      have nw : ∀ i u, [Value.int .i64 x, .slice da md dc][i]? = some u → W5.cell? ((⟨w4.heap.size, 0, none⟩ : Addr).add i) = some u := by rw [← hW5]; exact fun i u h => news_at i u h
      have s4 := b4.size
      have s5 := b5.size
      have hb5 : w.heap.size ≤ W5.heap.size := by omega
      have HOX := hide (And.intro ho5 (fun (i : Nat) (n : Int) (bs : List Nat) (hi : ((cellsOf f).take k)[i]? = some (n, bs)) => show ∃ d, xs[i * 2]? = some (.int .i64 n) ∧ xs[i * 2 + 1]? = some d ∧ Own w.heap.size W5 d bs from by
        obtain ⟨d, u1, u2, u3⟩ := hxs i n bs hi
        exact ⟨d, u1, u2, (u3.below b4).below b5⟩))
      have OD := hide (od'.below b5)
      have RO5 := hide (own_below (own_below (unhide HRO) b4) b5)
      have LO5 := hide (((unhide HLO).trans (b4.mono hsz)).trans (b5.mono (by omega)))
      obtain ⟨i0, hi0, hz0, hz1, hz2⟩ := infoCell
      have NW := hide nw
      have HW5 := hide hW5
      clear od od' hxs ho ho4 ho5 b4 b5 nw hW5 hmd HCR HRO HLO HCL
      go_wp2_with (at_builtin
                   rw [unhide HW5]
                   refine wpList_append_own _ rfl (.tmp 14) (.tmp 21) 35 rfl w.heap.size 40 i0 (.agg #[.int .i64 0, .slice none 0 0]) 2 32 Tryz.underlying35 hi0 hz0 hz1 hz2 rfl (by decide) _ _ _ rfl (unhide HOX).1 ⟨w4.heap.size, 0, none⟩ 1 1 [.int .i64 x, .slice da md dc] rfl rfl (unhide NW) (cell_one _ _ rfl) (by unfold maxLen; omega) (by omega) hb5 ?_
                   intro v6 w6 own6 grow6 _
                   have OW6 := hide own6
                   have GR6 := hide grow6
                   clear own6 grow6)
      have FIN : Hid (CRow w.heap.size w6 v6 ((cellsOf f).take (k + 1)) ∧ w6.ownsRow w.heap.size 3 1 (.slice (some ⟨g, 0, none⟩) n cap) n ((keysOf f).map encZ) ∧ Below w.heap.size w w6) := by
        have ho5 := (unhide HOX).1
        refine ⟨?_, own_kept (unhide RO5) fun j hj => (unhide GR6).block j ((unhide RO5).lt j hj).2 (fun e => ?_), (unhide LO5).grown (unhide GR6) hb5 (fun j hj => (own_tag ho5 j hj).1)⟩
        · rw [unhide HTK]
          exact CRow.push (unhide HTL) ho5 (unhide HOX).2 (unhide OD) (unhide OW6) (unhide GR6)
        · obtain ⟨_, cur, fr, hc⟩ := own_tag ho5 j e.symm
          obtain ⟨_, cur', fr', hc'⟩ := own_tag (unhide RO5) j hj
          rw [hc] at hc'; cases hc'
      clear OW6 GR6 HOX OD RO5 LO5 NW hi0 hz0 hz1 hz2
      go_wp2
      go_roundg (n - (k + 1))
      case measure => have := unhide HG; omega
      case rel => exact ⟨k + 1, by omega, by go_num, unhide FIN⟩
    · have hk : k = n := by omega
      have hkI : ¬ (k : Int) < (n : Int) := by omega
      have et : (cellsOf f).take k = cellsOf f := by
        rw [List.take_of_length_le]
        rw [cellsOf, List.length_map, unhide HN]; omega
      rw [et] at hcr
      have HCR := hide hcr
      have HLO := hide hlow
      clear hcr hlow hro et hgk hk
      go_wp2
      go_ret
      exact ⟨_, rfl, unhide HCR, unhide HLO⟩
end Go.Proofs.YtnagfoclbdlenaaGreatDoor
