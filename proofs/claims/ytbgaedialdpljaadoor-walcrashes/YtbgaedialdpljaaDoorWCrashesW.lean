/- The walk of WalCrashes. -/
import Derived.Test.YtbgaedialdpljaaDoorWCrash
namespace Go.Proofs.YtbgaedialdpljaaDoor
open Go.RowKit

theorem row_cap {w : World} {base : Nat} {e : TypeId} {z : Nat} {ao : Option Addr} {n cap m : Nat} {vs : List Value} (h : w.ownsRow base e z (.slice ao n cap) m vs) : m ≤ cap := by
  rcases h.2 with ⟨e1, h0⟩ | ⟨g, cap', cur, e1, _, _, hc, _⟩
  · cases e1; omega
  · cases e1; exact hc
/-- what a round carries: a log whose power may have gone, and the rows that were written. -/
structure Cr (W w : World) (p l : Nat) (q : Option Nat) (s : St) (XS : List (List Nat)) (d n : Nat) (ao : Option Addr) (m cap : Nat) (vs : List Value) (i : Nat) : Prop where
  lg : Lg p w l p q s n
  hn : s.dead = false → takes XS = n
  low : n ≤ 100000
  bs : s.bs = cats XS
  syn : s.syn = takes (XS.take d)
  hd : d ≤ m
  room : s.room = 1048576
  ops : s.ops ≤ i
  left : s.left ≤ 100
  few : takes XS ≤ 2464 + 308 * i
  hm : XS.length = m
  lm : m ≤ 8 + i
  own : w.ownsRow p 32 1 (.slice ao m cap) m vs
  rv : RowVals W vs XS
  fit : Fit XS
  below : Below W.heap.size W w
  size : p ≤ w.heap.size
section
variable {W w w' : World} {p l : Nat} {q : Option Nat} {s : St} {XS : List (List Nat)} {d n : Nat} {ao : Option Addr} {m cap : Nat} {vs : List Value} {i : Nat}
theorem Cr.later (h : Cr W w p l q s XS d n ao m cap vs i) (hb : Below w.heap.size w w') : Cr W w' p l q s XS d n ao m cap vs i :=
  ⟨h.lg.below hb, h.hn, h.low, h.bs, h.syn, h.hd, h.room, h.ops, h.left, h.few, h.hm, h.lm, own_below h.own hb, h.rv, h.fit, h.below.trans (hb.mono h.below.size), Nat.le_trans h.size hb.size⟩
theorem Cr.next (h : Cr W w p l q s XS d n ao m cap vs i) : Cr W w p l q s XS d n ao m cap vs (i + 1) :=
  ⟨h.lg, h.hn, h.low, h.bs, h.syn, h.hd, h.room, by have := h.ops; omega, h.left, by have := h.few; omega, h.hm, by have := h.lm; omega, h.own, h.rv, h.fit, h.below, h.size⟩
theorem Cr.arg (h : Cr W w p l q s XS d n ao m cap vs i) : RowsArg w ao XS := rows_at h.own h.hm (h.rv.below h.below)
theorem Cr.front (h : Cr W w p l q s XS d n ao m cap vs i) : Fr s XS d i :=
  ⟨h.room, ⟨takes XS, Nat.le_refl _, by rw [h.bs, List.take_of_length_le (by rw [cats_len]; exact Nat.le_refl _)]⟩, by rw [h.syn]; exact Nat.le_refl _, h.lg.tape.fits.1, h.ops, h.left⟩
end
theorem Tp.box {base b : Nat} {w w' : World} {p : Nat} {q : Option Nat} {s : St} {bx : Nat} {cs : Array Value} {fr : Nat × Nat} (h : Tp base w p q s) (hb : w.heap[bx]? = some (.cells cs 34 fr)) (hk : Kept b (fun k => k = p) w w') : w'.heap[bx]? = some (.cells cs 34 fr) := by
  rw [hk.2 bx (blk_lt' hb) (fun hf => ?_)]
  · exact hb
  · obtain ⟨u, hu, _, hp, hown, _⟩ := h
    subst hf
    rw [hp] at hb; cases hb
theorem rows_box {b b' : Nat} {w w' : World} {v : Value} {m : Nat} {vs : List Value} {bx : Nat} {cs : Array Value} {fr : Nat × Nat} (ho : w.ownsRow b 32 1 v m vs) (hb : w.heap[bx]? = some (.cells cs 34 fr)) (hk : Kept b' (fun k => v.ownBlock = some k) w w') : w'.heap[bx]? = some (.cells cs 34 fr) := by
  rw [hk.2 bx (blk_lt' hb) (fun e => ?_)]
  · exact hb
  · obtain ⟨_, cur, fr', hc⟩ := own_tag ho bx e
    rw [hb] at hc; cases hc

set_option maxRecDepth 20000 in
set_option maxHeartbeats 16000000 in
theorem crashes_walk (aoc : Option Addr) (nc cc : Nat) (stop : Int) (aop : Option Addr) (np cp : Nat) (ps : List Int) (hnp : ps.length = np) (aog : Option Addr) (ng cg : Nat) (gs : List Int) (hng : gs.length = ng)
    (g a : Addr) (w : World) (hC : CallsAt w aoc nc) (hP : Nums w aop ps) (hA : Nums w aog gs) (hS : Start w g a) (hnpb : np ≤ 9223372036854775807) :
    Calls Tryd.prog 4 #[.slice aoc nc cc, .int .i64 stop, .slice aop np cp, .slice aog ng cg] w fun e w' => e = .returned (.bool true) ∧ Below w.heap.size w w' := by
  have HS := hide hS
  have hz := hS.low
  have HC := hide hC
  have HPK := hide (fun w' hb i => pick_any w w' aop np cp ps hnp hP hb i)
  have HA := hide hA
  have HNG := hide hng
  obtain ⟨ks, eks⟩ : ∃ ks : Nat, stop % 60 = (ks : Int) := ⟨(stop % 60).toNat, by omega⟩
  have hks : ks < 60 := by omega
  have EKS := hide eks
  clear hS hC hP hA hnp hng eks
  go_enter Tryd.func4, Tryd.ntmps4
  go_wp2_with fail
  refine (known_any g a w (unhide HS)).mono ?_
  rintro e w1 ⟨rfl, b1⟩
  have B1 := hide b1
  have s1 := b1.size
  have z1 : 4 ≤ w1.heap.size := Nat.le_trans hz s1
  clear b1
  go_wp2_with fail
  refine (new_ok 1048576 w1 (by decide) (by decide)).mono ?_
  rintro e w2 ⟨rfl, t2, b2⟩
  have s2 := b2.size
  have B2 := hide ((unhide B1).trans (b2.mono s1))
  have HO := hide (nopen w1.heap.size w1.heap.size none 1048576 0 0 0 [] g a w2 t2 ((unhide HS).below (unhide B2)) s2 Fit.nil rfl (by decide))
  clear t2 b2
  go_wp2_with fail
  refine (unhide HO).mono ?_
  rintro e w3 ⟨l, rfl, hl3, lg3, b3⟩
  have B3 := hide ((unhide B2).trans (b3.mono (unhide B2).size))
  have s3 : w1.heap.size ≤ w3.heap.size := Nat.le_trans s2 b3.size
  have LG3 := hide lg3
  clear lg3 b3 HO
  go_wp2_with fail
  refine (within_at stop 60 ks (unhide EKS) w3 (by omega) (by omega)).mono ?_
  rintro e w3' ⟨rfl, rfl⟩
  go_wp2_with fail
  refine (stop_any w1.heap.size w1.heap.size none _ (1 + (ks : Int)) w3' (unhide LG3).tape).mono ?_
  rintro e w4 ⟨rfl, t4, k4⟩
  have lg4 : Lg w1.heap.size w4 l w1.heap.size none ⟨1048576, [], 0, 0, 1 + (ks : Int), false⟩ 0 := ⟨(unhide LG3).1, by rw [k4.2 l (blk_lt' (unhide LG3).2.1) (fun e => (unhide LG3).ne (Or.inl e))]; exact (unhide LG3).2.1, t4⟩
  have cr4 : Cr w w4 w1.heap.size l none ⟨1048576, [], 0, 0, 1 + (ks : Int), false⟩ [] 0 0 none 0 0 [] 0 := ⟨lg4, fun _ => rfl, by omega, rfl, rfl, Nat.le_refl _, rfl, Nat.le_refl _, by simp only; omega, by simp [takes], rfl, by omega, World.ownsRow_nil _ _ _ _, RowVals.nil w, Fit.nil, (unhide B3).trans (k4.1.mono s1), Nat.le_trans s3 k4.size⟩
  have CR4 := hide cr4
  obtain ⟨p, ep⟩ : ∃ p, w1.heap.size = p := ⟨_, rfl⟩
  rw [ep] at CR4 s1 z1 ⊢
  clear t4 k4 lg4 cr4 LG3 B1 B2 B3 ep s2 s3 hl3
  go_wp2_with fail
  go_loopg [13, 14, 15, 16, 17] 40 (fun gg dv av kv cv iv wr => ∃ (i : Nat) (q : Option Nat) (s : St) (XS : List (List Nat)) (d n : Nat) (aoD : Option Addr) (cD : Nat) (ao : Option Addr) (m cap : Nat) (vs : List Value) (aoK : Option Addr) (nK cK : Nat) (cut : Bool), i + gg = 40 ∧ iv = .int .i64 (i : Int) ∧ dv = .slice aoD d cD ∧ av = .slice ao m cap ∧ kv = .slice aoK nK cK ∧ cv = .bool cut ∧ Cr w wr p l q s XS d n ao m cap vs i ∧ (cut = true → s.dead = true ∧ nK ≤ 8 ∧ ∃ KP vK, KP.length = nK ∧ wr.ownsRow p 32 1 (.slice aoK nK cK) nK vK ∧ RowVals w vK KP))
  case atStart => exact ⟨0, none, _, [], 0, 0, none, 0, none, 0, 0, [], none, 0, 0, false, rfl, rfl, rfl, rfl, rfl, rfl, unhide CR4, fun h => by cases h⟩
  case round =>
    obtain ⟨i, q, s, XS, d, n, aoD, cD, ao, m, cap, vs, aoK, nK, cK, cut, hig, rfl, rfl, rfl, rfl, rfl, cr, hcut⟩ := hrel
    have HIG := hide hig
    have hi40 : i ≤ 40 := by omega
    have CR := hide cr
    have CUT := hide hcut
    have hdm := cr.hd
    have hm48 : m ≤ 48 := by have := cr.lm; omega
    clear hig cr hcut CR4
    by_cases hin : i < nc ∧ i < 40 ∧ s.dead = false
    · obtain ⟨h1, h2, hd⟩ := hin
      obtain ⟨ad, kind, r, lb, cx, b, ro, rl, rc, xs, rfl, hc0, hc1, hc2, hbl, hby, hcx, hnx, hxl, hra⟩ := unhide HC i h1
      obtain ⟨blk, off, spot⟩ := ad
      have hspot : spot = none := by
        obtain ⟨ad0, _, _, _, _, _, _, _, _, _, e0, hc00, _⟩ := unhide HC 0 (by omega)
        cases e0
        simpa [Addr.add] using World.cell?_spot hc00
      subst hspot
      obtain rfl : cut = false := by
        cases cut with
        | false => rfl
        | true => have := (unhide CUT rfl).1; rw [hd] at this; cases this
      rw [Addr.add_lit] at hc0 hc1 hc2
      rw [← Nat.add_assoc] at hc1 hc2
      have BR := (unhide CR).below
      have k0 : wr.cell? ⟨blk, off + i * 3, none⟩ = some (.int .i64 kind) := by rw [BR.cell (blk_lt hc0)]; exact hc0
      have k1 : wr.cell? ⟨blk, off + i * 3 + 1, none⟩ = some (.slice r lb cx) := by rw [BR.cell (blk_lt hc1)]; exact hc1
      have k2 : wr.cell? ⟨blk, off + i * 3 + 2, none⟩ = some (.slice ro rl rc) := by rw [BR.cell (blk_lt hc2)]; exact hc2
      obtain ⟨kk, ekk⟩ : ∃ kk : Nat, kind % 3 = (kk : Int) := ⟨(kind % 3).toNat, by omega⟩
      have hkk : kk < 3 := by omega
      have hde := dead_any p p q s wr (unhide CR).lg.tape
      rw [hd] at hde
      have HDE := hide hde
      have HD := hide hd
      have HNN := hide ((unhide CR).hn hd)
      have EKK := hide ekk
      have HBL := hide hbl
      have HBY := hide hby
      have HNX := hide hnx
      have HXL := hide hxl
      have HRA := hide hra
      clear hc0 hc1 hc2 hbl hby hnx BR ekk hxl hra hd hde CUT
      go_wp2_with fail
      refine (unhide HDE).mono ?_
      rintro e wr' ⟨rfl, rfl⟩
      clear HDE
      go_wp2_with fail
      have ba : Below wr'.heap.size wr' (wr'.alloc (.cells #[.int .i64 kind, .slice r lb cx, .slice ro rl rc] 34)) := (Below.refl _ wr').alloc (Nat.le_refl _) _
      have hnbx : (wr'.alloc (.cells #[.int .i64 kind, .slice r lb cx, .slice ro rl rc] 34)).heap[wr'.heap.size]? = some (.cells #[.int .i64 kind, .slice r lb cx, .slice ro rl rc] 34 (0, 0)) := heap_alloc_new _ _
      generalize ewb : wr'.alloc (.cells #[.int .i64 kind, .slice r lb cx, .slice ro rl rc] 34) = wb at *
      clear ewb
      have CB := hide ((unhide CR).later ba)
      obtain ⟨bx, ebx⟩ : ∃ bx, wr'.heap.size = bx := ⟨_, rfl⟩
      rw [ebx] at hnbx ⊢
      have HNB := hide hnbx
      clear hnbx k0 k1 k2 ba ebx CR
      refine (within_at kind 3 kk (unhide EKK) wb (by omega) (by omega)).mono ?_
      rintro e wb' ⟨rfl, rfl⟩
      have cb1 : wb'.cell? ⟨bx, 1, none⟩ = some (.slice r lb cx) := (cell_of_block (unhide HNB)).trans rfl
      have cb2 : wb'.cell? ⟨bx, 2, none⟩ = some (.slice ro rl rc) := (cell_of_block (unhide HNB)).trans rfl
      have hbxl : bx < wb'.heap.size := blk_lt' (unhide HNB)
      have hk5 : kk = 0 ∨ kk = 1 ∨ kk = 2 := by omega
      have sb := (unhide CB).size
      clear hkk EKK
      rcases hk5 with rfl | rfl | rfl
      · by_cases h3 : 300 < lb
        · go_wp2
          go_roundg (40 - (i + 1))
          case measure => have := unhide HIG; omega
          case rel => exact ⟨i + 1, q, s, XS, d, n, aoD, cD, ao, m, cap, vs, aoK, nK, cK, false, by omega, by go_num, rfl, rfl, rfl, rfl, (unhide CB).next, fun h => by cases h⟩
        · have OWA := hide (unhide CB).own
          go_wp2_with (at_builtin; refine wpList_append_rows rfl (.tmp 67) (.tmp 70) rfl p _ vs m rfl ((unhide OWA).alloc _) (some ⟨wb'.heap.size, 0, none⟩) 1 1 [.slice r lb cx] rfl rfl built_one (one_slice _ _ _) (fun e => by cases e) (by omega) (by simp; omega) ?_)
          intro aoA capA w5 o5 k5 _
          have kk5 : Kept p (fun k => (Value.slice ao m cap).ownBlock = some k) wb' w5 := (Kept.of_below ((Below.refl _ wb').alloc (Nat.le_refl _) _) sb).trans k5 (fun _ _ x => x)
          have L5 := hide ((unhide CB).lg.grown (unhide CB).own kk5)
          have hn5 := rows_box (unhide CB).own (unhide HNB) kk5
          have cb5 : w5.cell? ⟨bx, 1, none⟩ = some (.slice r lb cx) := (cell_of_block hn5).trans rfl
          have B5 := hide ((unhide CB).below.trans (kk5.1.mono s1))
          have s5 : p ≤ w5.heap.size := Nat.le_trans sb kk5.size
          have O5 := hide o5
          have hfw := (unhide CB).few
          obtain ⟨c, s1', e1, f1, f2, f3, f4, f5, f6⟩ := append_cases s (frame b) (unhide HD) (by rw [(unhide CB).bs, cats_len, frame_length, (unhide CB).room, unhide HBL]; omega)
          have hol := (unhide CB).ops
          have hlf := (unhide CB).left
          have hlw := (unhide CB).low
          obtain ⟨n1, hn1⟩ : ∃ n1, n1 = if c = 0 then n + (8 + lb) else n := ⟨_, rfl⟩
          have HAP := hide (wappend_any p l p q s n g a r lb cx b (unhide HBL) w5 (unhide L5) ((unhide HS).below (unhide B5)) z1 s5 (by omega) (by omega) (by omega) ((unhide HBY).below (unhide B5)) (unhide HNX) hcx (by omega) c s1' e1 n1 hn1)
          have HN1 := hide hn1
          clear hn1
          have F1 := hide f1
          have F2 := hide f2
          have F3 := hide f3
          have F6 := hide f6
          clear o5 k5 kk5 hn5 e1 f1 f2 f3 f6 cb1 cb2 hbxl
          go_wp2_with fail
          refine (unhide HAP).mono ?_
          rintro e w6 ⟨q6, rfl, l6, k6, _⟩
          have cr6 : Cr w w6 p l q6 s1' (XS ++ [b]) d n1 aoA (m + 1) capA (vs ++ [.slice r lb cx]) (i + 1) := by
            have hnn := unhide HNN
            have htk : takes (XS ++ [b]) = takes XS + (8 + lb) := by rw [takes_snoc, unhide HBL]
            refine ⟨l6, ?_, ?_, by rw [unhide F1, (unhide CB).bs, cats_snoc], ?_, by omega, by rw [unhide F3]; exact (unhide CB).room, by omega, by omega, by omega, by rw [List.length_append, (unhide CB).hm]; rfl, by have := (unhide CB).lm; omega, (unhide L5).rows (unhide O5) k6, (unhide CB).rv.snoc (unhide HBL) (unhide HBY) hcx (unhide HNX), (unhide CB).fit.snoc (unhide HBY).1 (by rw [unhide HBL]; omega), (unhide B5).trans (k6.1.mono s1), Nat.le_trans s5 k6.size⟩
            · intro hdd
              rcases unhide F6 with ⟨rfl, _⟩ | ⟨_, hx⟩
              · rw [unhide HN1, if_pos rfl, htk, hnn]
              · rw [hx] at hdd; cases hdd
            · rw [unhide HN1]; split <;> omega
            · rw [unhide F2, (unhide CB).syn, List.take_append_of_le_length (by rw [(unhide CB).hm]; exact hdm)]
          have CR6 := hide cr6
          clear l6 k6 cr6 HAP L5 O5 B5 cb5 HNB CB F1 F2 F3 F6 OWA
          go_wp2
          go_roundg (40 - (i + 1))
          case measure => have := unhide HIG; omega
          case rel => exact ⟨i + 1, q6, s1', _, d, _, aoD, cD, aoA, m + 1, capA, _, aoK, nK, cK, false, by omega, by go_num, rfl, rfl, rfl, rfl, unhide CR6, fun h => by cases h⟩
      · obtain ⟨c, s1', e1, f1, f3, f4, f5, f6⟩ := sync_cases s (unhide HD) (by rw [(unhide CB).bs, cats_len, (unhide CB).room]; have := (unhide CB).few; omega)
        have hol := (unhide CB).ops
        have hlf := (unhide CB).left
        have hsy := wsync_any p l p q s n g a wb' (unhide CB).lg ((unhide HS).below (unhide CB).below) sb (by omega) (by omega)
        rw [e1] at hsy
        have HSY := hide hsy
        have F1 := hide f1
        have F3 := hide f3
        clear hsy e1 f1 f3 cb1 cb2 hbxl
        rcases f6 with ⟨rfl, f7, f8⟩ | ⟨rfl, f7, f8⟩
        · have F7 := hide f7
          have F8 := hide f8
          clear f7 f8
          go_wp2_with fail
          refine (unhide HSY).mono ?_
          rintro e w6 ⟨rfl, l6, k6⟩
          have cr6 : Cr w w6 p l q s1' XS m n ao m cap vs (i + 1) := by
            refine ⟨l6, fun _ => unhide HNN, (unhide CB).low, by rw [unhide F1, (unhide CB).bs], ?_, Nat.le_refl _, by rw [unhide F3]; exact (unhide CB).room, by omega, by omega, by have := (unhide CB).few; omega, (unhide CB).hm, by have := (unhide CB).lm; omega, (unhide CB).lg.tape.rows (unhide CB).own k6, (unhide CB).rv, (unhide CB).fit, (unhide CB).below.trans (k6.1.mono s1), Nat.le_trans sb k6.size⟩
            rw [unhide F8, (unhide CB).bs, cats_len, List.take_of_length_le (by rw [(unhide CB).hm]; exact Nat.le_refl _)]
          have CR6 := hide cr6
          have s6 := cr6.size
          have bE : Below w6.heap.size w6 (w6.alloc (.cells #[] 32)) := (Below.refl _ w6).alloc (Nat.le_refl _) _
          have OE := hide (own_below cr6.own bE)
          have E6 := hide (rows_empty p w6 s6)
          have sE : p ≤ (w6.alloc (.cells #[] 32)).heap.size := Nat.le_trans s6 bE.size
          have RV6 := hide cr6.rv
          have HVL : Hid (vs.length = m) := by show _ = _; rw [cr6.rv.1, cr6.hm]
          have NL := hide (row_nil cr6.own)
          clear l6 k6 cr6 bE HSY HNB CB F1 F3 F7 F8
          go_wp2_with (at_builtin; refine wpList_append_rows rfl (.tmp 81) (.tmp 82) rfl p _ [] 0 rfl (unhide E6) ao m cap vs rfl (unhide HVL) (rows_cells (unhide OE)) (unhide RV6).one (unhide NL) (by omega) sE ?_)
          intro aoE cE w7 o7 k7 _
          have b7 := below_new k7 (fun k hk => by simp only [Value.ownBlock, Option.some.injEq] at hk; omega)
          have CR7 := hide ((unhide CR6).later b7)
          clear o7 k7 b7 OE E6 CR6 RV6 HVL NL
          go_wp2
          go_roundg (40 - (i + 1))
          case measure => have := unhide HIG; omega
          case rel => exact ⟨i + 1, q, s1', XS, m, n, aoE, cE, ao, m, cap, vs, aoK, nK, cK, false, by omega, by go_num, by simp, rfl, rfl, rfl, unhide CR7, fun h => by cases h⟩
        · have F7 := hide f7
          have F8 := hide f8
          clear f7 f8
          go_wp2_with fail
          refine (unhide HSY).mono ?_
          rintro e w6 ⟨rfl, l6, k6⟩
          have cr6 : Cr w w6 p l q s1' XS d n ao m cap vs (i + 1) :=
            ⟨l6, fun _ => unhide HNN, (unhide CB).low, by rw [unhide F1, (unhide CB).bs], by rw [unhide F8, (unhide CB).syn], hdm, by rw [unhide F3]; exact (unhide CB).room, by omega, by omega, by have := (unhide CB).few; omega, (unhide CB).hm, by have := (unhide CB).lm; omega, (unhide CB).lg.tape.rows (unhide CB).own k6, (unhide CB).rv, (unhide CB).fit, (unhide CB).below.trans (k6.1.mono s1), Nat.le_trans sb k6.size⟩
          have CR6 := hide cr6
          clear l6 k6 cr6 HSY HNB CB F1 F3 F7 F8
          go_wp2
          go_roundg (40 - (i + 1))
          case measure => have := unhide HIG; omega
          case rel => exact ⟨i + 1, q, s1', XS, d, n, aoD, cD, ao, m, cap, vs, aoK, nK, cK, false, by omega, by go_num, rfl, rfl, rfl, rfl, unhide CR6, fun h => by cases h⟩
      · obtain ⟨ms, hms⟩ : ∃ ms, (smallOf xs).length = ms := ⟨_, rfl⟩
        have hsm := small_any w ro rl rc xs (unhide HXL) wb' (unhide HRA) (unhide CB).below ms hms
        have hfs := fit_small (unhide HRA)
        have htk := takes_small xs
        have hln := smallOf_len xs
        rw [hms] at hln
        generalize smallOf xs = YS at *
        obtain ⟨ky, hky⟩ : ∃ ky, takes YS = ky := ⟨_, rfl⟩
        rw [hky] at htk
        have HSM := hide hsm
        have HFS := hide hfs
        have HMS := hide hms
        have HKY := hide hky
        clear hsm hfs hms hky
        go_wp2_with fail
        refine (unhide HSM).mono ?_
        rintro e w5 ⟨ao5, cap5, vs5, rfl, o5, rv5, nl5, b5⟩
        have O5 := hide (own_rebase o5 sb)
        have RV5 := hide rv5
        have NL5 := hide nl5
        have CB5 := hide ((unhide CB).later b5)
        have s5 := (unhide CB5).size
        have RA5 := rows_at (unhide O5) (unhide HMS) ((unhide RV5).below (unhide CB5).below)
        obtain ⟨c, s1', e1, f3, f4, f5, f6⟩ := replace_cases s (cats YS) (unhide HD) (by rw [cats_len, (unhide CB).room, unhide HKY]; omega)
        have hol := (unhide CB5).ops
        have hlf := (unhide CB5).left
        have hkp := wkeep_any p l p q s n g a ao5 ms cap5 YS (unhide HMS) w5 (unhide CB5).lg ((unhide HS).below (unhide CB5).below) s5 (by omega) (by omega) RA5 (unhide HFS) (by omega) c s1' e1 _ rfl
        rw [unhide HKY] at hkp
        have HKP := hide hkp
        have F3 := hide f3
        clear o5 rv5 nl5 b5 RA5 hkp e1 f3 CB HNB cb1 cb2 hbxl HSM
        rcases f6 with ⟨rfl, f7, f8, f9⟩ | ⟨rfl, f7, f8, f9⟩
        · have F7 := hide f7
          have F8 := hide f8
          have F9 := hide f9
          clear f7 f8 f9
          go_wp2_with fail
          refine (unhide HKP).mono ?_
          rintro e w6 ⟨q6, rfl, l6, k6, _⟩
          have LG6 : Hid (Lg p w6 l p q6 s1' ky) := l6
          have O6 := hide ((unhide CB5).lg.rows (unhide O5) k6)
          have B6 := hide ((unhide CB5).below.trans (k6.1.mono s1))
          have s6 : p ≤ w6.heap.size := Nat.le_trans s5 k6.size
          have bE : Below w6.heap.size w6 (w6.alloc (.cells #[] 32)) := (Below.refl _ w6).alloc (Nat.le_refl _) _
          have OE := hide (own_below (unhide O6) bE)
          have E6 := hide (rows_empty p w6 s6)
          have sE : p ≤ (w6.alloc (.cells #[] 32)).heap.size := Nat.le_trans s6 bE.size
          have HVL : Hid (vs5.length = ms) := by show _ = _; rw [(unhide RV5).1, unhide HMS]
          clear l6 k6 bE HKP
          go_wp2_with (at_builtin; refine wpList_append_rows rfl (.tmp 93) (.tmp 94) rfl p _ [] 0 rfl (unhide E6) ao5 ms cap5 vs5 rfl (unhide HVL) (rows_cells (unhide OE)) (unhide RV5).one (unhide NL5) (by omega) sE ?_)
          intro aoA cA w7 o7 k7 _
          have b7 := below_new k7 (fun k hk => by simp only [Value.ownBlock, Option.some.injEq] at hk; omega)
          have cr7 : Cr w w7 p l q6 s1' YS ms ky aoA ms cA vs5 (i + 1) := by
            refine ⟨(unhide LG6).below b7, fun _ => unhide HKY, by omega, unhide F8, ?_, Nat.le_refl _, by rw [unhide F3]; exact (unhide CB5).room, by omega, by omega, by rw [unhide HKY]; omega, unhide HMS, by omega, by simpa using o7, unhide RV5, unhide HFS, (unhide B6).trans (b7.mono (unhide B6).size), Nat.le_trans s6 b7.size⟩
            rw [unhide F9, cats_len, List.take_of_length_le (by rw [unhide HMS]; exact Nat.le_refl _)]
          have CR7 := hide cr7
          have s7 := cr7.size
          have O7 := own_below (unhide O6) b7
          have bE : Below w7.heap.size w7 (w7.alloc (.cells #[] 32)) := (Below.refl _ w7).alloc (Nat.le_refl _) _
          have OE7 := hide (own_below O7 bE)
          have E7 := hide (rows_empty p w7 s7)
          have sE7 : p ≤ (w7.alloc (.cells #[] 32)).heap.size := Nat.le_trans s7 bE.size
          clear o7 k7 b7 cr7 bE O7 OE E6 LG6 O6 B6 CB5 O5
          go_wp2_with (at_builtin; refine wpList_append_rows rfl (.tmp 96) (.tmp 97) rfl p _ [] 0 rfl (unhide E7) ao5 ms cap5 vs5 rfl (unhide HVL) (rows_cells (unhide OE7)) (unhide RV5).one (unhide NL5) (by omega) sE7 ?_)
          intro aoE cE w8 o8 k8 _
          have b8 := below_new k8 (fun k hk => by simp only [Value.ownBlock, Option.some.injEq] at hk; omega)
          have CR8 := hide ((unhide CR7).later b8)
          clear o8 k8 b8 OE7 E7 CR7
          go_wp2
          go_roundg (40 - (i + 1))
          case measure => have := unhide HIG; omega
          case rel => exact ⟨i + 1, q6, s1', YS, ms, ky, aoE, cE, aoA, ms, cA, vs5, ao5, ms, cap5, false, by omega, by go_num, by simp, by simp, rfl, rfl, unhide CR8, fun h => by cases h⟩
        · have F7 := hide f7
          have F8 := hide f8
          have F9 := hide f9
          clear f7 f8 f9
          go_wp2_with fail
          refine (unhide HKP).mono ?_
          rintro e w6 ⟨q6, rfl, l6, k6, _⟩
          have LG6 : Lg p w6 l p q6 s1' n := l6
          have O6 := hide ((unhide CB5).lg.rows (unhide O5) k6)
          have cr6 : Cr w w6 p l q6 s1' XS d n ao m cap vs (i + 1) :=
            ⟨LG6, (fun h => by rw [unhide F7] at h; cases h), (unhide CB5).low, by rw [unhide F8, (unhide CB5).bs], by rw [unhide F9, (unhide CB5).syn], hdm, by rw [unhide F3]; exact (unhide CB5).room, by omega, by omega, by have := (unhide CB5).few; omega, (unhide CB5).hm, by have := (unhide CB5).lm; omega, (unhide CB5).lg.rows (unhide CB5).own k6, (unhide CB5).rv, (unhide CB5).fit, (unhide CB5).below.trans (k6.1.mono s1), Nat.le_trans s5 k6.size⟩
          have CR6 := hide cr6
          clear l6 k6 cr6 LG6 HKP CB5 O5 F3 F8 F9
          go_wp2
          go_roundg (40 - (i + 1))
          case measure => have := unhide HIG; omega
          case rel => exact ⟨i + 1, q6, s1', XS, d, n, aoD, cD, ao, m, cap, vs, ao5, ms, cap5, true, by omega, by go_num, rfl, rfl, rfl, rfl, unhide CR6, fun _ => ⟨unhide F7, by omega, YS, vs5, unhide HMS, unhide O6, unhide RV5⟩⟩
    · have fr0 : Fr s XS d 40 := ⟨(unhide CR).front.room, (unhide CR).front.front, (unhide CR).front.syn, (unhide CR).front.low, by have := (unhide CR).ops; omega, (unhide CR).left⟩
      have FR0 := hide fr0
      have T0 := hide (unhide CR).lg.tape
      have OA0 := hide (unhide CR).own
      have B0 := hide (unhide CR).below
      have s0 := (unhide CR).size
      have RV := hide (unhide CR).rv
      have FT := hide (unhide CR).fit
      have HM := hide (unhide CR).hm
      have KP : Hid (cut = true → nK ≤ 8 ∧ ∃ KP vK, KP.length = nK ∧ wr.ownsRow p 32 1 (.slice aoK nK cK) nK vK ∧ RowVals w vK KP) := fun h => (unhide CUT h).2
      have hde := dead_any p p q s wr (unhide CR).lg.tape
      have HDE := hide hde
      have hout : (¬ i < nc) ∨ (i < nc ∧ ¬ i < 40) ∨ (i < nc ∧ i < 40 ∧ s.dead = true) := by
        by_cases h1 : i < nc
        · by_cases h2 : i < 40
          · right; right
            refine ⟨h1, h2, ?_⟩
            cases hd : s.dead with
            | true => rfl
            | false => exact absurd ⟨h1, h2, hd⟩ hin
          · exact Or.inr (Or.inl ⟨h1, h2⟩)
        · exact Or.inl h1
      clear fr0 hde CR CUT hin HIG
      rcases hout with h1 | ⟨h1, h2⟩ | ⟨h1, h2, h3⟩
      · clear HDE
        go_wp2_with fail
        go_loopg [19] 4 (fun gg iv wt => ∃ (j : Nat) (q : Option Nat) (s : St), j + gg = 4 ∧ iv = .int .i64 (j : Int) ∧ Fr s XS d (40 + j) ∧ Tp p wt p q s ∧ wt.ownsRow p 32 1 (.slice ao m cap) m vs ∧ (cut = true → nK ≤ 8 ∧ ∃ KP vK, KP.length = nK ∧ wt.ownsRow p 32 1 (.slice aoK nK cK) nK vK ∧ RowVals w vK KP) ∧ Below w.heap.size w wt ∧ p ≤ wt.heap.size)
        case atStart => exact ⟨0, q, s, rfl, rfl, unhide FR0, unhide T0, unhide OA0, unhide KP, unhide B0, s0⟩
        case round =>
          obtain ⟨j, q, s, hjg, rfl, fr, tp, oa, kp, br, sr⟩ := hrel
          have HJG := hide hjg
          have hj4 : j ≤ 4 := by omega
          have FR := hide fr
          have TP := hide tp
          have OA := hide oa
          have KP2 := hide kp
          have BR := hide br
          clear hjg fr tp oa kp br FR0 T0 OA0 KP B0
          by_cases hin : j < ng ∧ j < 4
          · obtain ⟨g1, g2⟩ := hin
            obtain ⟨ad, rfl, hcg, _, _⟩ := unhide HA j (by rw [unhide HNG]; exact g1)
            have hcr : wr.cell? (ad.add j) = some (.int .i64 (gs.getD j 0)) := by rw [(unhide BR).cell (blk_lt hcg)]; exact hcg
            obtain ⟨av, eav⟩ : ∃ av, gs.getD j 0 = av := ⟨_, rfl⟩
            rw [eav] at hcr
            obtain ⟨ka, eka⟩ : ∃ ka : Nat, av % 4 = (ka : Int) := ⟨(av % 4).toNat, by omega⟩
            have hka : ka < 4 := by omega
            have EKA := hide eka
            have HCG := hide hcr
            have g3 : (j : Int) < (ng : Int) := by omega
            clear hcg hcr eav eka
            go_wp2_with fail
            refine (unhide HPK wr (unhide BR) _).mono ?_
            rintro e wr2 ⟨pv, rfl, rfl⟩
            go_wp2_with fail
            refine (crash_any p p q s pv wr2 (unhide TP)).mono ?_
            rintro e wt1 ⟨rfl, t1, k1⟩
            obtain ⟨fr1, dd1, _⟩ := (unhide FR).crash pv
            have FR1 := hide fr1
            have DD1 := hide dd1
            have T1 := hide t1
            have OA1 := hide ((unhide TP).rows (unhide OA) k1)
            have KP3 : Hid (cut = true → nK ≤ 8 ∧ ∃ KP vK, KP.length = nK ∧ wt1.ownsRow p 32 1 (.slice aoK nK cK) nK vK ∧ RowVals w vK KP) := fun h => by
              obtain ⟨c1, K, vK, c2, c3, c4⟩ := unhide KP2 h
              exact ⟨c1, K, vK, c2, (unhide TP).rows c3 k1, c4⟩
            have B1 := hide ((unhide BR).trans (k1.1.mono s1))
            have s1t : p ≤ wt1.heap.size := Nat.le_trans sr k1.size
            have hcg1 : wt1.cell? (ad.add j) = some (.int .i64 av) := by
              rw [(unhide B1).cell (by obtain ⟨ad', e', hcc, _⟩ := unhide HA j (by rw [unhide HNG]; exact g1); cases e'; exact blk_lt hcc), ← (unhide BR).cell (by obtain ⟨ad', e', hcc, _⟩ := unhide HA j (by rw [unhide HNG]; exact g1); cases e'; exact blk_lt hcc)]
              exact unhide HCG
            clear fr1 dd1 t1 k1 FR TP OA KP2 BR HCG
            go_wp2_with fail
            refine (within_at av 4 ka (unhide EKA) wt1 (by omega) (by omega)).mono ?_
            rintro e wt1' ⟨rfl, rfl⟩
            clear hcg1
            go_wp2_with fail
            refine (stop_any p p q _ (1 + (ka : Int)) wt1' (unhide T1)).mono ?_
            rintro e wt2 ⟨rfl, t2, k2⟩
            have FR2 := hide ((unhide FR1).stop (1 + (ka : Int)) (by omega))
            have T2 := hide t2
            have OA2 := hide ((unhide T1).rows (unhide OA1) k2)
            have KP4 : Hid (cut = true → nK ≤ 8 ∧ ∃ KP vK, KP.length = nK ∧ wt2.ownsRow p 32 1 (.slice aoK nK cK) nK vK ∧ RowVals w vK KP) := fun h => by
              obtain ⟨c1, K, vK, c2, c3, c4⟩ := unhide KP3 h
              exact ⟨c1, K, vK, c2, (unhide T1).rows c3 k2, c4⟩
            have B2 := hide ((unhide B1).trans (k2.1.mono s1))
            have s2t : p ≤ wt2.heap.size := Nat.le_trans s1t k2.size
            clear t2 k2 FR1 T1 OA1 KP3 B1
            go_wp2_with fail
            refine (open_front p q _ XS d (40 + j) g a wt2 (unhide T2) ((unhide HS).below (unhide B2)) s2t (unhide FR2) (unhide DD1) (unhide FT) (by rw [unhide HM]; exact hdm) (by omega)).mono ?_
            rintro e wt3 ⟨v3, q3, s3, rfl, t3, fr3, k3⟩
            have FR3 := hide fr3
            have T3 := hide t3
            have OA3 := hide ((unhide T2).rows (unhide OA2) k3)
            have KP5 : Hid (cut = true → nK ≤ 8 ∧ ∃ KP vK, KP.length = nK ∧ wt3.ownsRow p 32 1 (.slice aoK nK cK) nK vK ∧ RowVals w vK KP) := fun h => by
              obtain ⟨c1, K, vK, c2, c3, c4⟩ := unhide KP4 h
              exact ⟨c1, K, vK, c2, (unhide T2).rows c3 k3, c4⟩
            have B3 := hide ((unhide B2).trans (k3.1.mono s1))
            have s3t : p ≤ wt3.heap.size := Nat.le_trans s2t k3.size
            clear t3 fr3 k3 FR2 T2 OA2 KP4 B2 DD1
            go_wp2
            go_roundg (4 - (j + 1))
            case measure => have := unhide HJG; omega
            case rel => exact ⟨j + 1, q3, s3, by omega, by go_num, unhide FR3, unhide T3, unhide OA3, unhide KP5, unhide B3, s3t⟩
          · have hout2 : (¬ j < ng) ∨ (j < ng ∧ ¬ j < 4) := by omega
            clear hin HJG
            rcases hout2 with g1 | ⟨g1, g2⟩
            all_goals
              go_wp2_with fail
              refine (unhide HPK wr (unhide BR) _).mono ?_
              rintro e wr2 ⟨pv, rfl, rfl⟩
              go_wp2_with fail
              refine (crash_any p p q s pv wr2 (unhide TP)).mono ?_
              rintro e wt1 ⟨rfl, t1, k1⟩
              obtain ⟨fr1, dd1, ll1⟩ := (unhide FR).crash pv
              have FR1 := hide fr1
              have DD1 := hide dd1
              have LL1 := hide ll1
              have T1 := hide t1
              have OA1 := hide ((unhide TP).rows (unhide OA) k1)
              have KP3 : Hid (cut = true → nK ≤ 8 ∧ ∃ KP vK, KP.length = nK ∧ wt1.ownsRow p 32 1 (.slice aoK nK cK) nK vK ∧ RowVals w vK KP) := fun h => by
                obtain ⟨c1, K, vK, c2, c3, c4⟩ := unhide KP2 h
                exact ⟨c1, K, vK, c2, (unhide TP).rows c3 k1, c4⟩
              have B1 := hide ((unhide BR).trans (k1.1.mono s1))
              have s1t : p ≤ wt1.heap.size := Nat.le_trans sr k1.size
              clear fr1 dd1 ll1 t1 k1 FR TP OA KP2 BR
              go_wp2_with fail
              refine (open_last p q _ XS d (40 + j) g a wt1 (unhide T1) ((unhide HS).below (unhide B1)) s1t (unhide FR1) (unhide DD1) (unhide LL1) (unhide FT) (by rw [unhide HM]; exact hdm) (by omega)).mono ?_
              rintro e wt2 ⟨q2, l2, k, syn2, ops2, n2, hdk, hkl, htk, rfl, lg2, k2⟩
              have hkm : k ≤ m := by rw [← unhide HM]; exact hkl
              have HTK := hide htk
              have OA2 := hide ((unhide T1).rows (unhide OA1) k2)
              have KP4 : Hid (cut = true → nK ≤ 8 ∧ ∃ KP vK, KP.length = nK ∧ wt2.ownsRow p 32 1 (.slice aoK nK cK) nK vK ∧ RowVals w vK KP) := fun h => by
                obtain ⟨c1, K, vK, c2, c3, c4⟩ := unhide KP3 h
                exact ⟨c1, K, vK, c2, (unhide T1).rows c3 k2, c4⟩
              have B2 := hide ((unhide B1).trans (k2.1.mono s1))
              have HKL : Hid ((XS.take k).length = k) := by show _ = _; rw [List.length_take]; omega
              have HAL := hide (nall p l2 p q2 1048576 syn2 ops2 n2 (XS.take k) g a wt2 lg2 ((unhide HS).below (unhide B2)) ((unhide FT).take k) htk (by decide) k (unhide HKL))
              clear hkl htk lg2 k2 T1 OA1 KP3 B1 FR1 DD1 LL1
              go_wp2_with fail
              refine (unhide HAL).mono ?_
              rintro e wt3 ⟨ao3, cap3, rfl, r3, _, b3⟩
              have R3 := hide r3
              have OA3 := hide (own_below (unhide OA2) b3)
              have KP5 : Hid (cut = true → nK ≤ 8 ∧ ∃ KP, KP.length = nK ∧ RowsArg wt3 aoK KP) := fun h => by
                obtain ⟨c1, K, vK, c2, c3, c4⟩ := unhide KP4 h
                exact ⟨c1, K, c2, rows_at (own_below c3 b3) c2 (c4.below ((unhide B2).trans (b3.mono (unhide B2).size)))⟩
              have B3 := hide ((unhide B2).trans (b3.mono (unhide B2).size))
              clear r3 b3 HAL OA2 KP4 B2
              cases cut with
              | true =>
                obtain ⟨hk8, K, hK1, hK2⟩ := unhide KP5 rfl
                have HK1 := hide hK1
                have HK2 := hide hK2
                clear hK1 hK2 KP5
                go_wp2_with fail
                refine (same_any ao3 aoK k nK cap3 cK (XS.take k) K (unhide HKL) (unhide HK1) wt3 (unhide R3) (unhide HK2) (by omega) (by omega)).mono ?_
                rintro e wt4 ⟨bb, rfl, _, b4⟩
                have B4 := hide ((unhide B3).trans (b4.mono (unhide B3).size))
                have R4 := hide ((unhide R3).upto b4)
                have OA4 := hide (own_below (unhide OA3) b4)
                clear b4 B3 R3 OA3
                cases bb with
                | true =>
                  go_wp2
                  go_ret
                  exact ⟨rfl, unhide B4⟩
                | false =>
                  have RA4 := hide ((rows_at (unhide OA4) (unhide HM) ((unhide RV).below (unhide B4))).take k)
                  have hnl := row_nil (unhide OA4)
                  have hcm : m ≤ cap := row_cap (unhide OA4)
                  by_cases h0 : ao = none
                  · subst h0
                    have hc0 := hnl rfl
                    subst hc0
                    have hm0 : m = 0 := by omega
                    subst hm0
                    have hk0 : k = 0 := by omega
                    subst hk0
                    have hd0 : d = 0 := by omega
                    subst hd0
                    clear hnl hcm
                    go_wp2_with fail
                    refine (same_any ao3 none 0 0 cap3 0 (XS.take 0) (XS.take 0) (unhide HKL) (unhide HKL) wt4 (unhide R4) (unhide RA4) (by omega) (by omega)).mono ?_
                    rintro e wt5 ⟨b5, rfl, hb5, bl5⟩
                    obtain rfl := hb5 rfl
                    have B5 := hide ((unhide B4).trans (bl5.mono (unhide B4).size))
                    clear hb5 bl5
                    go_wp2
                    go_ret
                    exact ⟨rfl, unhide B5⟩
                  · obtain ⟨ada, rfl⟩ : ∃ ada, ao = some ada := by
                      cases ao with
                      | none => exact absurd rfl h0
                      | some ada => exact ⟨ada, rfl⟩
                    clear h0 hnl
                    have q1 : (d : Int) ≤ (k : Int) := by omega
                    have q2 : (k : Int) ≤ (m : Int) := by omega
                    go_wp2_with fail
                    refine (same_any ao3 (some ada) k k cap3 cap (XS.take k) (XS.take k) (unhide HKL) (unhide HKL) wt4 (unhide R4) (unhide RA4) (by omega) (by omega)).mono ?_
                    rintro e wt5 ⟨b5, rfl, hb5, bl5⟩
                    obtain rfl := hb5 rfl
                    have B5 := hide ((unhide B4).trans (bl5.mono (unhide B4).size))
                    clear hb5 bl5
                    go_wp2
                    go_ret
                    exact ⟨rfl, unhide B5⟩
              | false =>
                have R4 := R3
                have OA4 := OA3
                have B4 := B3
                clear R3 OA3 B3 KP5
                have RA4 := hide ((rows_at (unhide OA4) (unhide HM) ((unhide RV).below (unhide B4))).take k)
                have hnl := row_nil (unhide OA4)
                have hcm : m ≤ cap := row_cap (unhide OA4)
                by_cases h0 : ao = none
                · subst h0
                  have hc0 := hnl rfl
                  subst hc0
                  have hm0 : m = 0 := by omega
                  subst hm0
                  have hk0 : k = 0 := by omega
                  subst hk0
                  have hd0 : d = 0 := by omega
                  subst hd0
                  clear hnl hcm
                  go_wp2_with fail
                  refine (same_any ao3 none 0 0 cap3 0 (XS.take 0) (XS.take 0) (unhide HKL) (unhide HKL) wt3 (unhide R4) (unhide RA4) (by omega) (by omega)).mono ?_
                  rintro e wt5 ⟨b5, rfl, hb5, bl5⟩
                  obtain rfl := hb5 rfl
                  have B5 := hide ((unhide B4).trans (bl5.mono (unhide B4).size))
                  clear hb5 bl5
                  go_wp2
                  go_ret
                  exact ⟨rfl, unhide B5⟩
                · obtain ⟨ada, rfl⟩ : ∃ ada, ao = some ada := by
                    cases ao with
                    | none => exact absurd rfl h0
                    | some ada => exact ⟨ada, rfl⟩
                  clear h0 hnl
                  have q1 : (d : Int) ≤ (k : Int) := by omega
                  have q2 : (k : Int) ≤ (m : Int) := by omega
                  go_wp2_with fail
                  refine (same_any ao3 (some ada) k k cap3 cap (XS.take k) (XS.take k) (unhide HKL) (unhide HKL) wt3 (unhide R4) (unhide RA4) (by omega) (by omega)).mono ?_
                  rintro e wt5 ⟨b5, rfl, hb5, bl5⟩
                  obtain rfl := hb5 rfl
                  have B5 := hide ((unhide B4).trans (bl5.mono (unhide B4).size))
                  clear hb5 bl5
                  go_wp2
                  go_ret
                  exact ⟨rfl, unhide B5⟩
      · clear HDE
        go_wp2_with fail
        go_loopg [19] 4 (fun gg iv wt => ∃ (j : Nat) (q : Option Nat) (s : St), j + gg = 4 ∧ iv = .int .i64 (j : Int) ∧ Fr s XS d (40 + j) ∧ Tp p wt p q s ∧ wt.ownsRow p 32 1 (.slice ao m cap) m vs ∧ (cut = true → nK ≤ 8 ∧ ∃ KP vK, KP.length = nK ∧ wt.ownsRow p 32 1 (.slice aoK nK cK) nK vK ∧ RowVals w vK KP) ∧ Below w.heap.size w wt ∧ p ≤ wt.heap.size)
        case atStart => exact ⟨0, q, s, rfl, rfl, unhide FR0, unhide T0, unhide OA0, unhide KP, unhide B0, s0⟩
        case round =>
          obtain ⟨j, q, s, hjg, rfl, fr, tp, oa, kp, br, sr⟩ := hrel
          have HJG := hide hjg
          have hj4 : j ≤ 4 := by omega
          have FR := hide fr
          have TP := hide tp
          have OA := hide oa
          have KP2 := hide kp
          have BR := hide br
          clear hjg fr tp oa kp br FR0 T0 OA0 KP B0
          by_cases hin : j < ng ∧ j < 4
          · obtain ⟨g1, g2⟩ := hin
            obtain ⟨ad, rfl, hcg, _, _⟩ := unhide HA j (by rw [unhide HNG]; exact g1)
            have hcr : wr.cell? (ad.add j) = some (.int .i64 (gs.getD j 0)) := by rw [(unhide BR).cell (blk_lt hcg)]; exact hcg
            obtain ⟨av, eav⟩ : ∃ av, gs.getD j 0 = av := ⟨_, rfl⟩
            rw [eav] at hcr
            obtain ⟨ka, eka⟩ : ∃ ka : Nat, av % 4 = (ka : Int) := ⟨(av % 4).toNat, by omega⟩
            have hka : ka < 4 := by omega
            have EKA := hide eka
            have HCG := hide hcr
            have g3 : (j : Int) < (ng : Int) := by omega
            clear hcg hcr eav eka
            go_wp2_with fail
            refine (unhide HPK wr (unhide BR) _).mono ?_
            rintro e wr2 ⟨pv, rfl, rfl⟩
            go_wp2_with fail
            refine (crash_any p p q s pv wr2 (unhide TP)).mono ?_
            rintro e wt1 ⟨rfl, t1, k1⟩
            obtain ⟨fr1, dd1, _⟩ := (unhide FR).crash pv
            have FR1 := hide fr1
            have DD1 := hide dd1
            have T1 := hide t1
            have OA1 := hide ((unhide TP).rows (unhide OA) k1)
            have KP3 : Hid (cut = true → nK ≤ 8 ∧ ∃ KP vK, KP.length = nK ∧ wt1.ownsRow p 32 1 (.slice aoK nK cK) nK vK ∧ RowVals w vK KP) := fun h => by
              obtain ⟨c1, K, vK, c2, c3, c4⟩ := unhide KP2 h
              exact ⟨c1, K, vK, c2, (unhide TP).rows c3 k1, c4⟩
            have B1 := hide ((unhide BR).trans (k1.1.mono s1))
            have s1t : p ≤ wt1.heap.size := Nat.le_trans sr k1.size
            have hcg1 : wt1.cell? (ad.add j) = some (.int .i64 av) := by
              rw [(unhide B1).cell (by obtain ⟨ad', e', hcc, _⟩ := unhide HA j (by rw [unhide HNG]; exact g1); cases e'; exact blk_lt hcc), ← (unhide BR).cell (by obtain ⟨ad', e', hcc, _⟩ := unhide HA j (by rw [unhide HNG]; exact g1); cases e'; exact blk_lt hcc)]
              exact unhide HCG
            clear fr1 dd1 t1 k1 FR TP OA KP2 BR HCG
            go_wp2_with fail
            refine (within_at av 4 ka (unhide EKA) wt1 (by omega) (by omega)).mono ?_
            rintro e wt1' ⟨rfl, rfl⟩
            clear hcg1
            go_wp2_with fail
            refine (stop_any p p q _ (1 + (ka : Int)) wt1' (unhide T1)).mono ?_
            rintro e wt2 ⟨rfl, t2, k2⟩
            have FR2 := hide ((unhide FR1).stop (1 + (ka : Int)) (by omega))
            have T2 := hide t2
            have OA2 := hide ((unhide T1).rows (unhide OA1) k2)
            have KP4 : Hid (cut = true → nK ≤ 8 ∧ ∃ KP vK, KP.length = nK ∧ wt2.ownsRow p 32 1 (.slice aoK nK cK) nK vK ∧ RowVals w vK KP) := fun h => by
              obtain ⟨c1, K, vK, c2, c3, c4⟩ := unhide KP3 h
              exact ⟨c1, K, vK, c2, (unhide T1).rows c3 k2, c4⟩
            have B2 := hide ((unhide B1).trans (k2.1.mono s1))
            have s2t : p ≤ wt2.heap.size := Nat.le_trans s1t k2.size
            clear t2 k2 FR1 T1 OA1 KP3 B1
            go_wp2_with fail
            refine (open_front p q _ XS d (40 + j) g a wt2 (unhide T2) ((unhide HS).below (unhide B2)) s2t (unhide FR2) (unhide DD1) (unhide FT) (by rw [unhide HM]; exact hdm) (by omega)).mono ?_
            rintro e wt3 ⟨v3, q3, s3, rfl, t3, fr3, k3⟩
            have FR3 := hide fr3
            have T3 := hide t3
            have OA3 := hide ((unhide T2).rows (unhide OA2) k3)
            have KP5 : Hid (cut = true → nK ≤ 8 ∧ ∃ KP vK, KP.length = nK ∧ wt3.ownsRow p 32 1 (.slice aoK nK cK) nK vK ∧ RowVals w vK KP) := fun h => by
              obtain ⟨c1, K, vK, c2, c3, c4⟩ := unhide KP4 h
              exact ⟨c1, K, vK, c2, (unhide T2).rows c3 k3, c4⟩
            have B3 := hide ((unhide B2).trans (k3.1.mono s1))
            have s3t : p ≤ wt3.heap.size := Nat.le_trans s2t k3.size
            clear t3 fr3 k3 FR2 T2 OA2 KP4 B2 DD1
            go_wp2
            go_roundg (4 - (j + 1))
            case measure => have := unhide HJG; omega
            case rel => exact ⟨j + 1, q3, s3, by omega, by go_num, unhide FR3, unhide T3, unhide OA3, unhide KP5, unhide B3, s3t⟩
          · have hout2 : (¬ j < ng) ∨ (j < ng ∧ ¬ j < 4) := by omega
            clear hin HJG
            rcases hout2 with g1 | ⟨g1, g2⟩
            all_goals
              go_wp2_with fail
              refine (unhide HPK wr (unhide BR) _).mono ?_
              rintro e wr2 ⟨pv, rfl, rfl⟩
              go_wp2_with fail
              refine (crash_any p p q s pv wr2 (unhide TP)).mono ?_
              rintro e wt1 ⟨rfl, t1, k1⟩
              obtain ⟨fr1, dd1, ll1⟩ := (unhide FR).crash pv
              have FR1 := hide fr1
              have DD1 := hide dd1
              have LL1 := hide ll1
              have T1 := hide t1
              have OA1 := hide ((unhide TP).rows (unhide OA) k1)
              have KP3 : Hid (cut = true → nK ≤ 8 ∧ ∃ KP vK, KP.length = nK ∧ wt1.ownsRow p 32 1 (.slice aoK nK cK) nK vK ∧ RowVals w vK KP) := fun h => by
                obtain ⟨c1, K, vK, c2, c3, c4⟩ := unhide KP2 h
                exact ⟨c1, K, vK, c2, (unhide TP).rows c3 k1, c4⟩
              have B1 := hide ((unhide BR).trans (k1.1.mono s1))
              have s1t : p ≤ wt1.heap.size := Nat.le_trans sr k1.size
              clear fr1 dd1 ll1 t1 k1 FR TP OA KP2 BR
              go_wp2_with fail
              refine (open_last p q _ XS d (40 + j) g a wt1 (unhide T1) ((unhide HS).below (unhide B1)) s1t (unhide FR1) (unhide DD1) (unhide LL1) (unhide FT) (by rw [unhide HM]; exact hdm) (by omega)).mono ?_
              rintro e wt2 ⟨q2, l2, k, syn2, ops2, n2, hdk, hkl, htk, rfl, lg2, k2⟩
              have hkm : k ≤ m := by rw [← unhide HM]; exact hkl
              have HTK := hide htk
              have OA2 := hide ((unhide T1).rows (unhide OA1) k2)
              have KP4 : Hid (cut = true → nK ≤ 8 ∧ ∃ KP vK, KP.length = nK ∧ wt2.ownsRow p 32 1 (.slice aoK nK cK) nK vK ∧ RowVals w vK KP) := fun h => by
                obtain ⟨c1, K, vK, c2, c3, c4⟩ := unhide KP3 h
                exact ⟨c1, K, vK, c2, (unhide T1).rows c3 k2, c4⟩
              have B2 := hide ((unhide B1).trans (k2.1.mono s1))
              have HKL : Hid ((XS.take k).length = k) := by show _ = _; rw [List.length_take]; omega
              have HAL := hide (nall p l2 p q2 1048576 syn2 ops2 n2 (XS.take k) g a wt2 lg2 ((unhide HS).below (unhide B2)) ((unhide FT).take k) htk (by decide) k (unhide HKL))
              clear hkl htk lg2 k2 T1 OA1 KP3 B1 FR1 DD1 LL1
              go_wp2_with fail
              refine (unhide HAL).mono ?_
              rintro e wt3 ⟨ao3, cap3, rfl, r3, _, b3⟩
              have R3 := hide r3
              have OA3 := hide (own_below (unhide OA2) b3)
              have KP5 : Hid (cut = true → nK ≤ 8 ∧ ∃ KP, KP.length = nK ∧ RowsArg wt3 aoK KP) := fun h => by
                obtain ⟨c1, K, vK, c2, c3, c4⟩ := unhide KP4 h
                exact ⟨c1, K, c2, rows_at (own_below c3 b3) c2 (c4.below ((unhide B2).trans (b3.mono (unhide B2).size)))⟩
              have B3 := hide ((unhide B2).trans (b3.mono (unhide B2).size))
              clear r3 b3 HAL OA2 KP4 B2
              cases cut with
              | true =>
                obtain ⟨hk8, K, hK1, hK2⟩ := unhide KP5 rfl
                have HK1 := hide hK1
                have HK2 := hide hK2
                clear hK1 hK2 KP5
                go_wp2_with fail
                refine (same_any ao3 aoK k nK cap3 cK (XS.take k) K (unhide HKL) (unhide HK1) wt3 (unhide R3) (unhide HK2) (by omega) (by omega)).mono ?_
                rintro e wt4 ⟨bb, rfl, _, b4⟩
                have B4 := hide ((unhide B3).trans (b4.mono (unhide B3).size))
                have R4 := hide ((unhide R3).upto b4)
                have OA4 := hide (own_below (unhide OA3) b4)
                clear b4 B3 R3 OA3
                cases bb with
                | true =>
                  go_wp2
                  go_ret
                  exact ⟨rfl, unhide B4⟩
                | false =>
                  have RA4 := hide ((rows_at (unhide OA4) (unhide HM) ((unhide RV).below (unhide B4))).take k)
                  have hnl := row_nil (unhide OA4)
                  have hcm : m ≤ cap := row_cap (unhide OA4)
                  by_cases h0 : ao = none
                  · subst h0
                    have hc0 := hnl rfl
                    subst hc0
                    have hm0 : m = 0 := by omega
                    subst hm0
                    have hk0 : k = 0 := by omega
                    subst hk0
                    have hd0 : d = 0 := by omega
                    subst hd0
                    clear hnl hcm
                    go_wp2_with fail
                    refine (same_any ao3 none 0 0 cap3 0 (XS.take 0) (XS.take 0) (unhide HKL) (unhide HKL) wt4 (unhide R4) (unhide RA4) (by omega) (by omega)).mono ?_
                    rintro e wt5 ⟨b5, rfl, hb5, bl5⟩
                    obtain rfl := hb5 rfl
                    have B5 := hide ((unhide B4).trans (bl5.mono (unhide B4).size))
                    clear hb5 bl5
                    go_wp2
                    go_ret
                    exact ⟨rfl, unhide B5⟩
                  · obtain ⟨ada, rfl⟩ : ∃ ada, ao = some ada := by
                      cases ao with
                      | none => exact absurd rfl h0
                      | some ada => exact ⟨ada, rfl⟩
                    clear h0 hnl
                    have q1 : (d : Int) ≤ (k : Int) := by omega
                    have q2 : (k : Int) ≤ (m : Int) := by omega
                    go_wp2_with fail
                    refine (same_any ao3 (some ada) k k cap3 cap (XS.take k) (XS.take k) (unhide HKL) (unhide HKL) wt4 (unhide R4) (unhide RA4) (by omega) (by omega)).mono ?_
                    rintro e wt5 ⟨b5, rfl, hb5, bl5⟩
                    obtain rfl := hb5 rfl
                    have B5 := hide ((unhide B4).trans (bl5.mono (unhide B4).size))
                    clear hb5 bl5
                    go_wp2
                    go_ret
                    exact ⟨rfl, unhide B5⟩
              | false =>
                have R4 := R3
                have OA4 := OA3
                have B4 := B3
                clear R3 OA3 B3 KP5
                have RA4 := hide ((rows_at (unhide OA4) (unhide HM) ((unhide RV).below (unhide B4))).take k)
                have hnl := row_nil (unhide OA4)
                have hcm : m ≤ cap := row_cap (unhide OA4)
                by_cases h0 : ao = none
                · subst h0
                  have hc0 := hnl rfl
                  subst hc0
                  have hm0 : m = 0 := by omega
                  subst hm0
                  have hk0 : k = 0 := by omega
                  subst hk0
                  have hd0 : d = 0 := by omega
                  subst hd0
                  clear hnl hcm
                  go_wp2_with fail
                  refine (same_any ao3 none 0 0 cap3 0 (XS.take 0) (XS.take 0) (unhide HKL) (unhide HKL) wt3 (unhide R4) (unhide RA4) (by omega) (by omega)).mono ?_
                  rintro e wt5 ⟨b5, rfl, hb5, bl5⟩
                  obtain rfl := hb5 rfl
                  have B5 := hide ((unhide B4).trans (bl5.mono (unhide B4).size))
                  clear hb5 bl5
                  go_wp2
                  go_ret
                  exact ⟨rfl, unhide B5⟩
                · obtain ⟨ada, rfl⟩ : ∃ ada, ao = some ada := by
                    cases ao with
                    | none => exact absurd rfl h0
                    | some ada => exact ⟨ada, rfl⟩
                  clear h0 hnl
                  have q1 : (d : Int) ≤ (k : Int) := by omega
                  have q2 : (k : Int) ≤ (m : Int) := by omega
                  go_wp2_with fail
                  refine (same_any ao3 (some ada) k k cap3 cap (XS.take k) (XS.take k) (unhide HKL) (unhide HKL) wt3 (unhide R4) (unhide RA4) (by omega) (by omega)).mono ?_
                  rintro e wt5 ⟨b5, rfl, hb5, bl5⟩
                  obtain rfl := hb5 rfl
                  have B5 := hide ((unhide B4).trans (bl5.mono (unhide B4).size))
                  clear hb5 bl5
                  go_wp2
                  go_ret
                  exact ⟨rfl, unhide B5⟩
      · have hde := unhide HDE
        rw [h3] at hde
        have HDE2 := hide hde
        clear hde HDE h3
        go_wp2_with fail
        refine (unhide HDE2).mono ?_
        rintro e wr' ⟨rfl, rfl⟩
        clear HDE2
        go_wp2_with fail
        go_loopg [19] 4 (fun gg iv wt => ∃ (j : Nat) (q : Option Nat) (s : St), j + gg = 4 ∧ iv = .int .i64 (j : Int) ∧ Fr s XS d (40 + j) ∧ Tp p wt p q s ∧ wt.ownsRow p 32 1 (.slice ao m cap) m vs ∧ (cut = true → nK ≤ 8 ∧ ∃ KP vK, KP.length = nK ∧ wt.ownsRow p 32 1 (.slice aoK nK cK) nK vK ∧ RowVals w vK KP) ∧ Below w.heap.size w wt ∧ p ≤ wt.heap.size)
        case atStart => exact ⟨0, q, s, rfl, rfl, unhide FR0, unhide T0, unhide OA0, unhide KP, unhide B0, s0⟩
        case round =>
          obtain ⟨j, q, s, hjg, rfl, fr, tp, oa, kp, br, sr⟩ := hrel
          have HJG := hide hjg
          have hj4 : j ≤ 4 := by omega
          have FR := hide fr
          have TP := hide tp
          have OA := hide oa
          have KP2 := hide kp
          have BR := hide br
          clear hjg fr tp oa kp br FR0 T0 OA0 KP B0
          by_cases hin : j < ng ∧ j < 4
          · obtain ⟨g1, g2⟩ := hin
            obtain ⟨ad, rfl, hcg, _, _⟩ := unhide HA j (by rw [unhide HNG]; exact g1)
            have hcr : wr.cell? (ad.add j) = some (.int .i64 (gs.getD j 0)) := by rw [(unhide BR).cell (blk_lt hcg)]; exact hcg
            obtain ⟨av, eav⟩ : ∃ av, gs.getD j 0 = av := ⟨_, rfl⟩
            rw [eav] at hcr
            obtain ⟨ka, eka⟩ : ∃ ka : Nat, av % 4 = (ka : Int) := ⟨(av % 4).toNat, by omega⟩
            have hka : ka < 4 := by omega
            have EKA := hide eka
            have HCG := hide hcr
            have g3 : (j : Int) < (ng : Int) := by omega
            clear hcg hcr eav eka
            go_wp2_with fail
            refine (unhide HPK wr (unhide BR) _).mono ?_
            rintro e wr2 ⟨pv, rfl, rfl⟩
            go_wp2_with fail
            refine (crash_any p p q s pv wr2 (unhide TP)).mono ?_
            rintro e wt1 ⟨rfl, t1, k1⟩
            obtain ⟨fr1, dd1, _⟩ := (unhide FR).crash pv
            have FR1 := hide fr1
            have DD1 := hide dd1
            have T1 := hide t1
            have OA1 := hide ((unhide TP).rows (unhide OA) k1)
            have KP3 : Hid (cut = true → nK ≤ 8 ∧ ∃ KP vK, KP.length = nK ∧ wt1.ownsRow p 32 1 (.slice aoK nK cK) nK vK ∧ RowVals w vK KP) := fun h => by
              obtain ⟨c1, K, vK, c2, c3, c4⟩ := unhide KP2 h
              exact ⟨c1, K, vK, c2, (unhide TP).rows c3 k1, c4⟩
            have B1 := hide ((unhide BR).trans (k1.1.mono s1))
            have s1t : p ≤ wt1.heap.size := Nat.le_trans sr k1.size
            have hcg1 : wt1.cell? (ad.add j) = some (.int .i64 av) := by
              rw [(unhide B1).cell (by obtain ⟨ad', e', hcc, _⟩ := unhide HA j (by rw [unhide HNG]; exact g1); cases e'; exact blk_lt hcc), ← (unhide BR).cell (by obtain ⟨ad', e', hcc, _⟩ := unhide HA j (by rw [unhide HNG]; exact g1); cases e'; exact blk_lt hcc)]
              exact unhide HCG
            clear fr1 dd1 t1 k1 FR TP OA KP2 BR HCG
            go_wp2_with fail
            refine (within_at av 4 ka (unhide EKA) wt1 (by omega) (by omega)).mono ?_
            rintro e wt1' ⟨rfl, rfl⟩
            clear hcg1
            go_wp2_with fail
            refine (stop_any p p q _ (1 + (ka : Int)) wt1' (unhide T1)).mono ?_
            rintro e wt2 ⟨rfl, t2, k2⟩
            have FR2 := hide ((unhide FR1).stop (1 + (ka : Int)) (by omega))
            have T2 := hide t2
            have OA2 := hide ((unhide T1).rows (unhide OA1) k2)
            have KP4 : Hid (cut = true → nK ≤ 8 ∧ ∃ KP vK, KP.length = nK ∧ wt2.ownsRow p 32 1 (.slice aoK nK cK) nK vK ∧ RowVals w vK KP) := fun h => by
              obtain ⟨c1, K, vK, c2, c3, c4⟩ := unhide KP3 h
              exact ⟨c1, K, vK, c2, (unhide T1).rows c3 k2, c4⟩
            have B2 := hide ((unhide B1).trans (k2.1.mono s1))
            have s2t : p ≤ wt2.heap.size := Nat.le_trans s1t k2.size
            clear t2 k2 FR1 T1 OA1 KP3 B1
            go_wp2_with fail
            refine (open_front p q _ XS d (40 + j) g a wt2 (unhide T2) ((unhide HS).below (unhide B2)) s2t (unhide FR2) (unhide DD1) (unhide FT) (by rw [unhide HM]; exact hdm) (by omega)).mono ?_
            rintro e wt3 ⟨v3, q3, s3, rfl, t3, fr3, k3⟩
            have FR3 := hide fr3
            have T3 := hide t3
            have OA3 := hide ((unhide T2).rows (unhide OA2) k3)
            have KP5 : Hid (cut = true → nK ≤ 8 ∧ ∃ KP vK, KP.length = nK ∧ wt3.ownsRow p 32 1 (.slice aoK nK cK) nK vK ∧ RowVals w vK KP) := fun h => by
              obtain ⟨c1, K, vK, c2, c3, c4⟩ := unhide KP4 h
              exact ⟨c1, K, vK, c2, (unhide T2).rows c3 k3, c4⟩
            have B3 := hide ((unhide B2).trans (k3.1.mono s1))
            have s3t : p ≤ wt3.heap.size := Nat.le_trans s2t k3.size
            clear t3 fr3 k3 FR2 T2 OA2 KP4 B2 DD1
            go_wp2
            go_roundg (4 - (j + 1))
            case measure => have := unhide HJG; omega
            case rel => exact ⟨j + 1, q3, s3, by omega, by go_num, unhide FR3, unhide T3, unhide OA3, unhide KP5, unhide B3, s3t⟩
          · have hout2 : (¬ j < ng) ∨ (j < ng ∧ ¬ j < 4) := by omega
            clear hin HJG
            rcases hout2 with g1 | ⟨g1, g2⟩
            all_goals
              go_wp2_with fail
              refine (unhide HPK wr (unhide BR) _).mono ?_
              rintro e wr2 ⟨pv, rfl, rfl⟩
              go_wp2_with fail
              refine (crash_any p p q s pv wr2 (unhide TP)).mono ?_
              rintro e wt1 ⟨rfl, t1, k1⟩
              obtain ⟨fr1, dd1, ll1⟩ := (unhide FR).crash pv
              have FR1 := hide fr1
              have DD1 := hide dd1
              have LL1 := hide ll1
              have T1 := hide t1
              have OA1 := hide ((unhide TP).rows (unhide OA) k1)
              have KP3 : Hid (cut = true → nK ≤ 8 ∧ ∃ KP vK, KP.length = nK ∧ wt1.ownsRow p 32 1 (.slice aoK nK cK) nK vK ∧ RowVals w vK KP) := fun h => by
                obtain ⟨c1, K, vK, c2, c3, c4⟩ := unhide KP2 h
                exact ⟨c1, K, vK, c2, (unhide TP).rows c3 k1, c4⟩
              have B1 := hide ((unhide BR).trans (k1.1.mono s1))
              have s1t : p ≤ wt1.heap.size := Nat.le_trans sr k1.size
              clear fr1 dd1 ll1 t1 k1 FR TP OA KP2 BR
              go_wp2_with fail
              refine (open_last p q _ XS d (40 + j) g a wt1 (unhide T1) ((unhide HS).below (unhide B1)) s1t (unhide FR1) (unhide DD1) (unhide LL1) (unhide FT) (by rw [unhide HM]; exact hdm) (by omega)).mono ?_
              rintro e wt2 ⟨q2, l2, k, syn2, ops2, n2, hdk, hkl, htk, rfl, lg2, k2⟩
              have hkm : k ≤ m := by rw [← unhide HM]; exact hkl
              have HTK := hide htk
              have OA2 := hide ((unhide T1).rows (unhide OA1) k2)
              have KP4 : Hid (cut = true → nK ≤ 8 ∧ ∃ KP vK, KP.length = nK ∧ wt2.ownsRow p 32 1 (.slice aoK nK cK) nK vK ∧ RowVals w vK KP) := fun h => by
                obtain ⟨c1, K, vK, c2, c3, c4⟩ := unhide KP3 h
                exact ⟨c1, K, vK, c2, (unhide T1).rows c3 k2, c4⟩
              have B2 := hide ((unhide B1).trans (k2.1.mono s1))
              have HKL : Hid ((XS.take k).length = k) := by show _ = _; rw [List.length_take]; omega
              have HAL := hide (nall p l2 p q2 1048576 syn2 ops2 n2 (XS.take k) g a wt2 lg2 ((unhide HS).below (unhide B2)) ((unhide FT).take k) htk (by decide) k (unhide HKL))
              clear hkl htk lg2 k2 T1 OA1 KP3 B1 FR1 DD1 LL1
              go_wp2_with fail
              refine (unhide HAL).mono ?_
              rintro e wt3 ⟨ao3, cap3, rfl, r3, _, b3⟩
              have R3 := hide r3
              have OA3 := hide (own_below (unhide OA2) b3)
              have KP5 : Hid (cut = true → nK ≤ 8 ∧ ∃ KP, KP.length = nK ∧ RowsArg wt3 aoK KP) := fun h => by
                obtain ⟨c1, K, vK, c2, c3, c4⟩ := unhide KP4 h
                exact ⟨c1, K, c2, rows_at (own_below c3 b3) c2 (c4.below ((unhide B2).trans (b3.mono (unhide B2).size)))⟩
              have B3 := hide ((unhide B2).trans (b3.mono (unhide B2).size))
              clear r3 b3 HAL OA2 KP4 B2
              cases cut with
              | true =>
                obtain ⟨hk8, K, hK1, hK2⟩ := unhide KP5 rfl
                have HK1 := hide hK1
                have HK2 := hide hK2
                clear hK1 hK2 KP5
                go_wp2_with fail
                refine (same_any ao3 aoK k nK cap3 cK (XS.take k) K (unhide HKL) (unhide HK1) wt3 (unhide R3) (unhide HK2) (by omega) (by omega)).mono ?_
                rintro e wt4 ⟨bb, rfl, _, b4⟩
                have B4 := hide ((unhide B3).trans (b4.mono (unhide B3).size))
                have R4 := hide ((unhide R3).upto b4)
                have OA4 := hide (own_below (unhide OA3) b4)
                clear b4 B3 R3 OA3
                cases bb with
                | true =>
                  go_wp2
                  go_ret
                  exact ⟨rfl, unhide B4⟩
                | false =>
                  have RA4 := hide ((rows_at (unhide OA4) (unhide HM) ((unhide RV).below (unhide B4))).take k)
                  have hnl := row_nil (unhide OA4)
                  have hcm : m ≤ cap := row_cap (unhide OA4)
                  by_cases h0 : ao = none
                  · subst h0
                    have hc0 := hnl rfl
                    subst hc0
                    have hm0 : m = 0 := by omega
                    subst hm0
                    have hk0 : k = 0 := by omega
                    subst hk0
                    have hd0 : d = 0 := by omega
                    subst hd0
                    clear hnl hcm
                    go_wp2_with fail
                    refine (same_any ao3 none 0 0 cap3 0 (XS.take 0) (XS.take 0) (unhide HKL) (unhide HKL) wt4 (unhide R4) (unhide RA4) (by omega) (by omega)).mono ?_
                    rintro e wt5 ⟨b5, rfl, hb5, bl5⟩
                    obtain rfl := hb5 rfl
                    have B5 := hide ((unhide B4).trans (bl5.mono (unhide B4).size))
                    clear hb5 bl5
                    go_wp2
                    go_ret
                    exact ⟨rfl, unhide B5⟩
                  · obtain ⟨ada, rfl⟩ : ∃ ada, ao = some ada := by
                      cases ao with
                      | none => exact absurd rfl h0
                      | some ada => exact ⟨ada, rfl⟩
                    clear h0 hnl
                    have q1 : (d : Int) ≤ (k : Int) := by omega
                    have q2 : (k : Int) ≤ (m : Int) := by omega
                    go_wp2_with fail
                    refine (same_any ao3 (some ada) k k cap3 cap (XS.take k) (XS.take k) (unhide HKL) (unhide HKL) wt4 (unhide R4) (unhide RA4) (by omega) (by omega)).mono ?_
                    rintro e wt5 ⟨b5, rfl, hb5, bl5⟩
                    obtain rfl := hb5 rfl
                    have B5 := hide ((unhide B4).trans (bl5.mono (unhide B4).size))
                    clear hb5 bl5
                    go_wp2
                    go_ret
                    exact ⟨rfl, unhide B5⟩
              | false =>
                have R4 := R3
                have OA4 := OA3
                have B4 := B3
                clear R3 OA3 B3 KP5
                have RA4 := hide ((rows_at (unhide OA4) (unhide HM) ((unhide RV).below (unhide B4))).take k)
                have hnl := row_nil (unhide OA4)
                have hcm : m ≤ cap := row_cap (unhide OA4)
                by_cases h0 : ao = none
                · subst h0
                  have hc0 := hnl rfl
                  subst hc0
                  have hm0 : m = 0 := by omega
                  subst hm0
                  have hk0 : k = 0 := by omega
                  subst hk0
                  have hd0 : d = 0 := by omega
                  subst hd0
                  clear hnl hcm
                  go_wp2_with fail
                  refine (same_any ao3 none 0 0 cap3 0 (XS.take 0) (XS.take 0) (unhide HKL) (unhide HKL) wt3 (unhide R4) (unhide RA4) (by omega) (by omega)).mono ?_
                  rintro e wt5 ⟨b5, rfl, hb5, bl5⟩
                  obtain rfl := hb5 rfl
                  have B5 := hide ((unhide B4).trans (bl5.mono (unhide B4).size))
                  clear hb5 bl5
                  go_wp2
                  go_ret
                  exact ⟨rfl, unhide B5⟩
                · obtain ⟨ada, rfl⟩ : ∃ ada, ao = some ada := by
                    cases ao with
                    | none => exact absurd rfl h0
                    | some ada => exact ⟨ada, rfl⟩
                  clear h0 hnl
                  have q1 : (d : Int) ≤ (k : Int) := by omega
                  have q2 : (k : Int) ≤ (m : Int) := by omega
                  go_wp2_with fail
                  refine (same_any ao3 (some ada) k k cap3 cap (XS.take k) (XS.take k) (unhide HKL) (unhide HKL) wt3 (unhide R4) (unhide RA4) (by omega) (by omega)).mono ?_
                  rintro e wt5 ⟨b5, rfl, hb5, bl5⟩
                  obtain rfl := hb5 rfl
                  have B5 := hide ((unhide B4).trans (bl5.mono (unhide B4).size))
                  clear hb5 bl5
                  go_wp2
                  go_ret
                  exact ⟨rfl, unhide B5⟩
end Go.Proofs.YtbgaedialdpljaaDoor
