/- The reference's take, where it takes: a contract. -/
import Derived.Test.YtkanolmcaoecgaaLRTake
namespace Go.Proofs.Ytkanolmcaoecgaa
open Go.RowKit
theorem Pw.kept' {base : Nat} {w w' : World} {g n cap : Nat} {ps : List Pr} (h : Pw base w (.slice (some ⟨g, 0, none⟩) n cap) ps) (hk : w'.heap[g]? = w.heap[g]?) : Pw base w' (.slice (some ⟨g, 0, none⟩) n cap) ps := by
  obtain ⟨xs, h1, h2⟩ := h
  exact ⟨xs, own_kept h1 fun k hb => by simp [Value.ownBlock] at hb; subst hb; exact hk, h2⟩
theorem own_base {w : World} {b b' : Nat} {e : TypeId} {size : Nat} {v : Value} {n : Nat} {xs : List Value} (h : w.ownsRow b e size v n xs) (hb : b' ≤ b) : w.ownsRow b' e size v n xs := by
  refine ⟨h.1, ?_⟩
  rcases h.2 with h0 | ⟨g, cap, cur, e, hg, r⟩
  · exact Or.inl h0
  · exact Or.inr ⟨g, cap, cur, e, Nat.le_trans hb hg, r⟩
theorem one_int' (y : Int) : ∀ u ∈ [Value.int .i64 y], u.oneCell' = true := fun u hu => by simp at hu; subst hu; rfl

set_option maxRecDepth 20000 in
set_option maxHeartbeats 2000000 in
theorem takeX_same {base x : Nat} {v : Value} {life : Int} {ref : Nat} {ps : List Pr} (id : Int) (l n : Nat) (w : World) (h : Xk base w x v life ref ps) (hl : ps.length ≤ 1000) (hbase : base ≤ w.heap.size) (r : Pr) (hr : look ps id = r) (_hr1 : r.life < 9223372036854775808) (hr2 : r.most < 9223372036854775808) (hl1 : 1 ≤ l) (hl2 : l < 9223372036854775808) (hn1 : 1 ≤ n) (hn2 : n < 9223372036854775808) (hs : r.life = l) (hfar : ¬ n + 256 ≤ r.most) (hnot : n ∉ r.ns) (hnl : r.ns.length ≤ 1000) :
    Calls Try.prog 22 #[.pointer (some ⟨x, 0, none⟩), .int .i64 id, .int .i64 (l : Int), .int .i64 (n : Int)] w fun e w' => e = .returned (.int .i64 0) ∧ (∃ v' nv', Xk base w' x v' life ref ((more ps id).set (pos ps id) ⟨id, l, r.sent, max r.most n, r.ns ++ [n], nv'⟩)) ∧ Only base [30, 55] w w' := by
  have HS := hide hs
  have HNOT := hide hnot
  have FAR := hide hfar
  clear hs hnot hfar
  have AT := hide (at_any id w h (by omega) hbase)
  have hmk := more_get id ps
  have hid := look_id id ps
  obtain ⟨ps1, hps1⟩ : ∃ ps1, more ps id = ps1 := ⟨_, rfl⟩
  obtain ⟨k, hk⟩ : ∃ k, pos ps id = k := ⟨_, rfl⟩
  rw [hps1, hk] at AT
  rw [hps1, hk, hr] at hmk
  rw [hr] at hid
  rw [hps1, hk]
  have HMK := hide hmk
  have HID := hide hid
  clear hps1 hk hr hmk h hid
  have lI : ¬ (l : Int) < 1 := by omega
  have nI : ¬ (n : Int) < 1 := by omega
  go_enter Try.func22, Try.ntmps22
  go_wp2_with fail
  refine (unhide AT).mono ?_
  rintro e w1 ⟨rfl, ⟨v1, x1⟩, o1⟩
  obtain ⟨g, m, cap, rfl, hn, hkn, hc, hm, hgx, hbg, ⟨cs, hcs⟩, hp⟩ := x1.open (unhide HMK)
  have X1 := hide x1
  obtain ⟨hbx, hx, _, hns⟩ := x1
  have hkI : (k : Int) < (m : Int) := by omega
  have c2 : w1.cell? ⟨x, 2, none⟩ = some (.slice (some ⟨g, 0, none⟩) m cap) := bcell hx rfl
  have e0 : w1.cell? ⟨g, k * 5, none⟩ = some (.int .i64 r.id) := (hp.cell hn.symm (unhide HMK) (j := 0) rfl).1
  have e1 : w1.cell? ⟨g, k * 5 + 1, none⟩ = some (.int .i64 (r.life : Int)) := (hp.cell hn.symm (unhide HMK) (j := 1) rfl).1
  have e2 : w1.cell? ⟨g, k * 5 + 2, none⟩ = some (.int .i64 (r.sent : Int)) := (hp.cell hn.symm (unhide HMK) (j := 2) rfl).1
  have e3 : w1.cell? ⟨g, k * 5 + 3, none⟩ = some (.int .i64 (r.most : Int)) := (hp.cell hn.symm (unhide HMK) (j := 3) rfl).1
  have e4 : w1.cell? ⟨g, k * 5 + 4, none⟩ = some r.nv := (hp.cell hn.symm (unhide HMK) (j := 4) rfl).1
  have hnr := hns r (List.mem_of_getElem? (unhide HMK))
  obtain ⟨ao, cn, hnv, hcn, hcm⟩ := own_slice hnr
  obtain ⟨V, hV, v1, bV, sV⟩ := box_peer w1 r
  obtain ⟨B, hB⟩ : ∃ B, w1.heap.size = B := ⟨_, rfl⟩
  have hV' : w1.alloc (.cells #[.int .i64 r.id, .int .i64 (r.life : Int), .int .i64 (r.sent : Int), .int .i64 (r.most : Int), .slice ao r.ns.length cn] 55) = V := by rw [← hnv]; exact hV
  rw [hnv] at e4
  rw [hB] at v1 sV
  have d1 : V.cell? ⟨B, 1, none⟩ = some (.int .i64 (r.life : Int)) := bcell v1 rfl
  have d2 : V.cell? ⟨B, 2, none⟩ = some (.int .i64 (r.sent : Int)) := bcell v1 rfl
  have d3 : V.cell? ⟨B, 3, none⟩ = some (.int .i64 (r.most : Int)) := bcell v1 rfl
  have d4 : V.cell? ⟨B, 4, none⟩ = some (.slice ao r.ns.length cn) := by rw [← hnv]; exact bcell v1 rfl
  have hoV : Only base [30, 55] w V := o1.trans (Only.of_below bV (Nat.le_trans hbase o1.size))
  have hgB : g < B := by rw [← hB]; exact blk_lt' hcs
  have hxB : x < B := by rw [← hB]; exact blk_lt' hx
  have hBw : w.heap.size ≤ B := by rw [← hB]; exact o1.size
  have XV := hide ((unhide X1).below bV)
  have HV := hide hV'
  have HB := hide hB
  have OV := hide hoV
  have V1 := hide v1
  have NR : Hid (V.ownsRow base 3 1 (.slice ao r.ns.length cn) r.ns.length (nums r.ns)) := by rw [← hnv]; exact own_below hnr bV
  have NV := hide hnv
  clear hx hns hp hcs o1 hnr hV hV' v1 bV hB hoV hnv X1 AT
  go_upto_region 5 with fail
  rw [unhide HV, unhide HB]
  clear HV HB e0 e1 e2 e3 e4 c2
  have hsI : (r.life : Int) = (l : Int) := by have := unhide HS; omega
  rw [hsI] at d1
  obtain ⟨S, hS⟩ : ∃ S, r.sent = S := ⟨_, rfl⟩
  obtain ⟨MO, hMO⟩ : ∃ MO, r.most = MO := ⟨_, rfl⟩
  obtain ⟨ns, hnsr⟩ : ∃ ns, r.ns = ns := ⟨_, rfl⟩
  obtain ⟨N, hN⟩ : ∃ N, ns.length = N := ⟨_, rfl⟩
  have V1 : Hid (V.heap[B]? = some (.cells (Pr.mk id l S MO ns (.slice ao N cn)).arr 55 (0, 0))) := by
    show _ = _
    rw [unhide V1, ← hS, ← hMO, ← hnsr, ← hN, ← hnsr, ← unhide HS, ← unhide HID]
    unfold Pr.arr
    rw [unhide NV]
  rw [hMO] at d3 FAR hr2
  rw [hnsr] at HNOT NR d4 hnl hcn
  rw [hN] at NR d4 hnl hcn
  rw [hS] at d2
  have HN := hide hN
  have HEQ := hide (And.intro hS (And.intro hMO hnsr))
  clear hS hMO hnsr hN hsI NV
  by_cases hmx : n ≤ MO
  · have hmI : (n : Int) ≤ (MO : Int) := by omega
    by_cases m1 : (256 : Int) ≤ (MO : Int)
    · have m2 : ¬ (n : Int) ≤ (MO : Int) - 256 := by have := unhide FAR; omega
      go_upto_region 12 with fail
      go_loopg [11] N (fun gg iv wr => ∃ i : Nat, i + gg = N ∧ iv = .int .i64 (i : Int) ∧ wr = V)
      case atStart => exact ⟨0, by omega, rfl, rfl⟩
      case round =>
        obtain ⟨i, hgi, rfl, rfl⟩ := hrel
        by_cases hlt : i < N
        · obtain ⟨y, hy⟩ : ∃ y, ns[i]? = some y := ⟨_, List.getElem?_eq_getElem (by rw [unhide HN]; exact hlt)⟩
          have hyv : (nums ns)[i]? = some (.int .i64 (y : Int)) := by rw [nums, List.getElem?_map, hy]; rfl
          obtain ⟨gn, rfl⟩ := ns_some (unhide NR) hlt
          have cy : wr.cell? ⟨gn, i, none⟩ = some (.int .i64 (y : Int)) := (own_cell (unhide NR) hyv).1
          have hiI : (i : Int) < (N : Int) := by omega
          have HG := hide hgi
          have e : y ≠ n := fun e => unhide HNOT (e ▸ List.mem_of_getElem? hy)
          have eI : ((y : Int) == (n : Int)) = false := by simp; omega
          clear hgi hy hyv e
          go_wp2
          go_roundg (N - (i + 1))
          case measure => have := unhide HG; omega
          case rel => exact ⟨i + 1, by omega, by go_num, rfl⟩
        · have hiI : ¬ (i : Int) < (N : Int) := by omega
          obtain ⟨V, rfl⟩ : ∃ V, V = wr := ⟨_, rfl⟩
          have v1 := unhide V1
          have f3 : V.frozen? ⟨B, 3, none⟩ = false := free_of_block v1
          obtain ⟨W2, hW2⟩ : ∃ W2, V.setCell ⟨B, 3, none⟩ (.int .i64 (MO : Int)) = W2 := ⟨_, rfl⟩
          have v2 : W2.heap[B]? = some (.cells (Pr.mk id l S MO ns (.slice ao N cn)).arr 55 (0, 0)) := by rw [← hW2, setCell_block v1]; rfl
          have s2 : W2.heap.size = V.heap.size := by rw [← hW2]; exact setCell_size _ _ _
          have k2 : ∀ b, b ≠ B → W2.heap[b]? = V.heap[b]? := fun b hb => by rw [← hW2]; exact Below.heap_setCell V ⟨B, 3, none⟩ _ b hb
          have g4 : W2.cell? ⟨B, 4, none⟩ = some (.slice ao N cn) := bcell v2 rfl
          have NR2 : Hid (W2.ownsRow base 3 1 (.slice ao N cn) ns.length (nums ns)) := by
            show World.ownsRow _ _ _ _ _ _ _
            rw [unhide HN]
            refine own_kept (unhide NR) fun b hb => k2 b (fun e => ?_)
            obtain ⟨_, cur, fr, hc⟩ := own_tag (unhide NR) b hb
            rw [e, v1] at hc; cases hc
          have BV2 : Hid (Below B V W2) := by rw [← hW2]; exact (Below.refl _ V).setCell (p := ⟨B, 3, none⟩) (Nat.le_refl _) _
          have HW2 := hide hW2
          have V2 := hide v2
          have K2 := hide k2
          have S2 := hide s2
          clear v1 hW2 v2 k2 s2 hgi
          go_upto_region 17 with fail
          rw [unhide HW2]
          clear HW2 d3 f3
          obtain ⟨W3, hW3⟩ : ∃ W3, W2.alloc (.cells #[] 3) = W3 := ⟨_, rfl⟩
          have b3 : Below W2.heap.size W2 W3 := by rw [← hW3]; exact (Below.refl _ W2).alloc (Nat.le_refl _) _
          obtain ⟨M, hM⟩ : ∃ M, W2.heap.size = M := ⟨_, rfl⟩
          have own3 : W3.ownsRow M 3 1 (.slice (some ⟨M, 0, none⟩) 0 0) 0 [] := by rw [← hW3, ← hM]; exact World.ownsRow_made W2 #[] 0 (Nat.le_refl _) (by decide) rfl
          have nr3 : W3.ownsRow base 3 1 (.slice ao N cn) ns.length (nums ns) := own_below (unhide NR2) b3
          have x3 : W3.heap[B]? = some (.cells (Pr.mk id l S MO ns (.slice ao N cn)).arr 55 (0, 0)) := (b3.block B (blk_lt' (unhide V2))).trans (unhide V2)
          have h4 : (W2.alloc (.cells #[] 3)).cell? ⟨B, 4, none⟩ = some (.slice ao N cn) := by rw [hW3]; exact bcell x3 rfl
          have hMB : B < M := by rw [← hM]; exact blk_lt' (unhide V2)
          rw [hM] at b3
          have m3 : M ≤ W3.heap.size := by have := b3.size; omega
          have O3 := hide own3
          have N3 := hide nr3
          have B3 := hide b3
          have X3 := hide x3
          have HW3 := hide hW3
          have HM := hide hM
          clear own3 nr3 b3 x3 hW3 hM
          go_upto_region 18 with (first
            | (at_builtin
               rw [unhide HW3, unhide HM]
               refine wpList_append_ints rfl (.tmp 70) (.tmp 72) rfl M base _ 0 [] rfl (unhide O3) _ ns rfl (unhide N3) (by rw [unhide HN]; omega) m3 ?_
               intro v4 w4 own4 b4
               obtain ⟨W5, hW5⟩ : ∃ W5, w4.alloc (.cells #[.int .i64 (n : Int)] 3) = W5 := ⟨_, rfl⟩
               have b5 : Below w4.heap.size w4 W5 := by rw [← hW5]; exact (Below.refl _ w4).alloc (Nat.le_refl _) _
               have own5 := own_below own4 b5
               have m4 : M ≤ w4.heap.size := Nat.le_trans m3 b4.size
               have m5 : M ≤ W5.heap.size := Nat.le_trans m4 b5.size
               have nw : ∀ i u, [Value.int .i64 (n : Int)][i]? = some u → W5.cell? ((⟨w4.heap.size, 0, none⟩ : Addr).add i) = some u := by rw [← hW5]; exact fun i u h => news_at i u h
               have B5 := hide ((unhide B3).trans (b4.trans (b5.mono m4)))
               have O5 := hide own5
               have NW := hide nw
               have HW5 := hide hW5
               clear own4 b4 b5 own5 nw hW5)
            | (at_builtin
               rw [unhide HW5]
               obtain ⟨i0, hi0, hz0, hz1, hz2⟩ := infoInt'
               refine wpList_append_own _ rfl (.tmp 73) (.tmp 75) 41 rfl M 3 i0 (.int .i64 0) 1 8 Try.underlying41 hi0 hz0 hz1 hz2 rfl (by decide) _ _ _ rfl (unhide O5) ⟨w4.heap.size, 0, none⟩ 1 1 [.int .i64 (n : Int)] rfl rfl (unhide NW) (one_int' _) (by unfold maxLen; rw [unhide HN]; omega) (by rw [unhide HN]; omega) m5 ?_
               intro v6 w6 own6 grow6 _
               obtain ⟨K, hK⟩ : ∃ K, 0 + ns.length + 1 = K := ⟨_, rfl⟩
               rw [hK] at own6
               obtain ⟨ao6, cap6, rfl, hc6, hm6⟩ := own_slice own6
               have HK := hide hK
               have b6 : Below M W2 w6 := (unhide B5).grown grow6 m5 (fun b hb => (own_tag (unhide O5) b hb).1)
               have x6 : w6.heap[B]? = some (.cells (Pr.mk id l S MO ns (.slice ao N cn)).arr 55 (0, 0)) := (b6.block B hMB).trans (unhide V2)
               have j4 : w6.cell? ⟨B, 4, none⟩ = some (.slice ao N cn) := bcell x6 rfl
               have jf : w6.frozen? ⟨B, 4, none⟩ = false := free_of_block x6
               have O6 := hide own6
               have B6 := hide b6
               have X6 := hide x6
               clear hi0 hz0 hz1 hz2 own6 grow6 b6 x6 hK))
          obtain ⟨r', hr'⟩ : ∃ r', Pr.mk id l S MO (ns ++ [n]) (.slice ao6 K cap6) = r' := ⟨_, rfl⟩
          obtain ⟨W7, hW7⟩ : ∃ W7, w6.setCell ⟨B, 4, none⟩ (.slice ao6 K cap6) = W7 := ⟨_, rfl⟩
          have x7 : W7.heap[B]? = some (.cells r'.arr 55 (0, 0)) := by rw [← hW7, setCell_block (unhide X6), ← hr']; rfl
          have hVM : V.heap.size = M := by rw [← unhide HM, unhide S2]
          have k7 : ∀ b, b < M → b ≠ B → W7.heap[b]? = V.heap[b]? := fun b hb hne => by
            rw [← hW7, Below.heap_setCell w6 ⟨B, 4, none⟩ _ b hne, (unhide B6).block b hb, unhide K2 b hne]
          obtain ⟨_, hxV, hpV, hnsV⟩ := unhide XV
          have hx7 : W7.heap[x]? = some (.cells #[.int .i64 life, .int .i64 (ref : Int), .slice (some ⟨g, 0, none⟩) m cap] 30 (0, 0)) := (k7 x (by omega) (by omega)).trans hxV
          have hp7 : Pw base W7 (.slice (some ⟨g, 0, none⟩) m cap) ps1 := hpV.kept' (k7 g (by omega) (by omega))
          obtain ⟨W8, hW8⟩ : ∃ W8, setPr W7 g (k * 5) r' = W8 := ⟨_, rfl⟩
          have FIN : Hid ((∃ v' nv', Xk base W8 x v' life ref (ps1.set k ⟨id, l, r.sent, max r.most n, r.ns ++ [n], nv'⟩)) ∧ Only base [30, 55] w W8) := by
            obtain ⟨q1, q2, q3⟩ := unhide HEQ
            have hoV := unhide OV
            have hgt : ∃ cs, V.heap[g]? = some (.cells cs 55 (0, 0)) := by
              rcases hpV.slice with ⟨h0, _⟩ | ⟨g', cap', cs', h0, _, hh, _⟩
              · cases h0
              · cases h0; exact ⟨cs', hh⟩
            obtain ⟨cg, hcg⟩ := hgt
            have k8 : ∀ b, b < M → b ≠ B → b ≠ g → W8.heap[b]? = V.heap[b]? := fun b hb h1 h2 => by rw [← hW8, setPr_other h2]; exact k7 b hb h1
            have ht8 : ∀ (b : Nat) (cs : Array Value) (t : TypeId), V.heap[b]? = some (.cells cs t (0, 0)) → t ≠ 55 → W8.heap[b]? = V.heap[b]? := fun b cs t hb ht => k8 b (by rw [← hVM]; exact blk_lt' hb) (fun e => by subst e; rw [unhide V1] at hb; cases hb; exact ht rfl) (fun e => by subst e; rw [hcg] at hb; cases hb; exact ht rfl)
            have hbM : base ≤ M := by omega
            have hbb : Below base V W8 := by
              rw [← hW8]
              refine Below.trans ?_ (setPr_below hbg _)
              rw [← hW7]
              refine Below.setCell ?_ (p := ⟨B, 4, none⟩) (by show base ≤ B; omega) _
              exact ((unhide BV2).mono (by omega)).trans ((unhide B6).mono hbM)
            have o8 : Only base [30, 55] V W8 := ⟨hbb, fun b hb hn => by
              refine k8 b (by rw [← hVM]; exact hb) (fun e => ?_) (fun e => ?_)
              · subst e; exact hn _ _ _ (unhide V1) (by simp)
              · subst e; exact hn _ _ _ hcg (by simp)⟩
            have p8 : Pw base W8 (.slice (some ⟨g, 0, none⟩) m cap) (ps1.set k r') := by rw [← hW8]; exact hp7.put hn.symm (unhide HMK) r'
            have hmx' : max r.most n = MO := by rw [q2]; omega
            refine ⟨⟨_, .slice ao6 K cap6, hbx, (k8 x (by omega) (by omega) (fun e => hgx e.symm)).trans hxV, ?_, fun q hq => ?_⟩, hoV.trans o8⟩
            · rw [q1, hmx', q3, hr']; exact p8
            · rw [q1, hmx', q3, hr'] at hq
              rcases List.mem_or_eq_of_mem_set hq with hq | rfl
              · exact (hnsV q hq).kept fun b cs hb => ht8 b cs _ hb (by decide)
              · have own6 := unhide O6
                rw [← hr']
                have h1 : W8.ownsRow M 3 1 (.slice ao6 K cap6) K ([] ++ nums ns ++ [.int .i64 (n : Int)]) := by
                  refine own_kept own6 fun b hb => ?_
                  obtain ⟨hMb, cur, fr, hc⟩ := own_tag own6 b hb
                  rw [← hW8, setPr_other (by omega), ← hW7, Below.heap_setCell w6 ⟨B, 4, none⟩ _ b (by show b ≠ B; omega)]
                have h2 : K = (ns ++ [n]).length := by rw [List.length_append, ← unhide HK]; simp
                show World.ownsRow _ _ _ _ _ _ _
                have h3 : [] ++ nums ns ++ [.int .i64 (n : Int)] = (ns ++ [n]).map (fun n : Nat => Value.int .i64 (n : Int)) := by simp [nums]
                rw [h3] at h1
                rw [← h2]
                exact own_base h1 hbM
          have HW7 := hide hW7
          have HW8 := hide hW8
          have z2 : W7.cell? ⟨x, 2, none⟩ = some (.slice (some ⟨g, 0, none⟩) m cap) := bcell hx7 rfl
          rw [← hr'] at x7
          have y0 : W7.cell? ⟨B, 0, none⟩ = some (.int .i64 id) := bcell x7 rfl
          have y1 : W7.cell? ⟨B, 1, none⟩ = some (.int .i64 (l : Int)) := bcell x7 rfl
          have y2 : W7.cell? ⟨B, 2, none⟩ = some (.int .i64 (S : Int)) := bcell x7 rfl
          have y3 : W7.cell? ⟨B, 3, none⟩ = some (.int .i64 (MO : Int)) := bcell x7 rfl
          have y4 : W7.cell? ⟨B, 4, none⟩ = some (.slice ao6 K cap6) := bcell x7 rfl
          obtain ⟨t0, s0⟩ := hp7.cell hn.symm (unhide HMK) (j := 0) rfl
          obtain ⟨t1, s1⟩ := hp7.cell hn.symm (unhide HMK) (j := 1) rfl
          obtain ⟨t2, s2⟩ := hp7.cell hn.symm (unhide HMK) (j := 2) rfl
          obtain ⟨t3, s3⟩ := hp7.cell hn.symm (unhide HMK) (j := 3) rfl
          obtain ⟨t4, s4⟩ := hp7.cell hn.symm (unhide HMK) (j := 4) rfl
          rw [Nat.add_zero] at t0 s0
          have HR' := hide hr'
          obtain ⟨nvr, hnvr⟩ : ∃ nvr, r.nv = nvr := ⟨_, rfl⟩
          clear hr' hW7 x7 hVM k7 hxV hpV hnsV hx7 hp7 hW8 O6 B6 X6 N3 NR NR2 O3 O5 NW B3 B5 V1 V2 K2 S2 XV OV HW3 HW5 j4 jf h4 g4 d1 d2 d4
          rw [unhide HW7]
          clear HW7
          go_region
          all_goals (
            change Exit.then _ _ _ _ (setPr W7 g (k * 5) (Pr.mk id l S MO (ns ++ [n]) (.slice ao6 K cap6))).drew
            rw [unhide HR', unhide HW8]
            go_wp2
            go_ret
            obtain ⟨⟨v', nv', f1⟩, f2⟩ := unhide FIN
            exact ⟨rfl, ⟨v', nv', f1.below (Below.refl _ _).drew⟩, f2.drew⟩)
    · go_upto_region 12 with fail
      go_loopg [11] N (fun gg iv wr => ∃ i : Nat, i + gg = N ∧ iv = .int .i64 (i : Int) ∧ wr = V)
      case atStart => exact ⟨0, by omega, rfl, rfl⟩
      case round =>
        obtain ⟨i, hgi, rfl, rfl⟩ := hrel
        by_cases hlt : i < N
        · obtain ⟨y, hy⟩ : ∃ y, ns[i]? = some y := ⟨_, List.getElem?_eq_getElem (by rw [unhide HN]; exact hlt)⟩
          have hyv : (nums ns)[i]? = some (.int .i64 (y : Int)) := by rw [nums, List.getElem?_map, hy]; rfl
          obtain ⟨gn, rfl⟩ := ns_some (unhide NR) hlt
          have cy : wr.cell? ⟨gn, i, none⟩ = some (.int .i64 (y : Int)) := (own_cell (unhide NR) hyv).1
          have hiI : (i : Int) < (N : Int) := by omega
          have HG := hide hgi
          have e : y ≠ n := fun e => unhide HNOT (e ▸ List.mem_of_getElem? hy)
          have eI : ((y : Int) == (n : Int)) = false := by simp; omega
          clear hgi hy hyv e
          go_wp2
          go_roundg (N - (i + 1))
          case measure => have := unhide HG; omega
          case rel => exact ⟨i + 1, by omega, by go_num, rfl⟩
        · have hiI : ¬ (i : Int) < (N : Int) := by omega
          obtain ⟨V, rfl⟩ : ∃ V, V = wr := ⟨_, rfl⟩
          have v1 := unhide V1
          have f3 : V.frozen? ⟨B, 3, none⟩ = false := free_of_block v1
          obtain ⟨W2, hW2⟩ : ∃ W2, V.setCell ⟨B, 3, none⟩ (.int .i64 (MO : Int)) = W2 := ⟨_, rfl⟩
          have v2 : W2.heap[B]? = some (.cells (Pr.mk id l S MO ns (.slice ao N cn)).arr 55 (0, 0)) := by rw [← hW2, setCell_block v1]; rfl
          have s2 : W2.heap.size = V.heap.size := by rw [← hW2]; exact setCell_size _ _ _
          have k2 : ∀ b, b ≠ B → W2.heap[b]? = V.heap[b]? := fun b hb => by rw [← hW2]; exact Below.heap_setCell V ⟨B, 3, none⟩ _ b hb
          have g4 : W2.cell? ⟨B, 4, none⟩ = some (.slice ao N cn) := bcell v2 rfl
          have NR2 : Hid (W2.ownsRow base 3 1 (.slice ao N cn) ns.length (nums ns)) := by
            show World.ownsRow _ _ _ _ _ _ _
            rw [unhide HN]
            refine own_kept (unhide NR) fun b hb => k2 b (fun e => ?_)
            obtain ⟨_, cur, fr, hc⟩ := own_tag (unhide NR) b hb
            rw [e, v1] at hc; cases hc
          have BV2 : Hid (Below B V W2) := by rw [← hW2]; exact (Below.refl _ V).setCell (p := ⟨B, 3, none⟩) (Nat.le_refl _) _
          have HW2 := hide hW2
          have V2 := hide v2
          have K2 := hide k2
          have S2 := hide s2
          clear v1 hW2 v2 k2 s2 hgi
          go_upto_region 17 with fail
          rw [unhide HW2]
          clear HW2 d3 f3
          obtain ⟨W3, hW3⟩ : ∃ W3, W2.alloc (.cells #[] 3) = W3 := ⟨_, rfl⟩
          have b3 : Below W2.heap.size W2 W3 := by rw [← hW3]; exact (Below.refl _ W2).alloc (Nat.le_refl _) _
          obtain ⟨M, hM⟩ : ∃ M, W2.heap.size = M := ⟨_, rfl⟩
          have own3 : W3.ownsRow M 3 1 (.slice (some ⟨M, 0, none⟩) 0 0) 0 [] := by rw [← hW3, ← hM]; exact World.ownsRow_made W2 #[] 0 (Nat.le_refl _) (by decide) rfl
          have nr3 : W3.ownsRow base 3 1 (.slice ao N cn) ns.length (nums ns) := own_below (unhide NR2) b3
          have x3 : W3.heap[B]? = some (.cells (Pr.mk id l S MO ns (.slice ao N cn)).arr 55 (0, 0)) := (b3.block B (blk_lt' (unhide V2))).trans (unhide V2)
          have h4 : (W2.alloc (.cells #[] 3)).cell? ⟨B, 4, none⟩ = some (.slice ao N cn) := by rw [hW3]; exact bcell x3 rfl
          have hMB : B < M := by rw [← hM]; exact blk_lt' (unhide V2)
          rw [hM] at b3
          have m3 : M ≤ W3.heap.size := by have := b3.size; omega
          have O3 := hide own3
          have N3 := hide nr3
          have B3 := hide b3
          have X3 := hide x3
          have HW3 := hide hW3
          have HM := hide hM
          clear own3 nr3 b3 x3 hW3 hM
          go_upto_region 18 with (first
            | (at_builtin
               rw [unhide HW3, unhide HM]
               refine wpList_append_ints rfl (.tmp 70) (.tmp 72) rfl M base _ 0 [] rfl (unhide O3) _ ns rfl (unhide N3) (by rw [unhide HN]; omega) m3 ?_
               intro v4 w4 own4 b4
               obtain ⟨W5, hW5⟩ : ∃ W5, w4.alloc (.cells #[.int .i64 (n : Int)] 3) = W5 := ⟨_, rfl⟩
               have b5 : Below w4.heap.size w4 W5 := by rw [← hW5]; exact (Below.refl _ w4).alloc (Nat.le_refl _) _
               have own5 := own_below own4 b5
               have m4 : M ≤ w4.heap.size := Nat.le_trans m3 b4.size
               have m5 : M ≤ W5.heap.size := Nat.le_trans m4 b5.size
               have nw : ∀ i u, [Value.int .i64 (n : Int)][i]? = some u → W5.cell? ((⟨w4.heap.size, 0, none⟩ : Addr).add i) = some u := by rw [← hW5]; exact fun i u h => news_at i u h
               have B5 := hide ((unhide B3).trans (b4.trans (b5.mono m4)))
               have O5 := hide own5
               have NW := hide nw
               have HW5 := hide hW5
               clear own4 b4 b5 own5 nw hW5)
            | (at_builtin
               rw [unhide HW5]
               obtain ⟨i0, hi0, hz0, hz1, hz2⟩ := infoInt'
               refine wpList_append_own _ rfl (.tmp 73) (.tmp 75) 41 rfl M 3 i0 (.int .i64 0) 1 8 Try.underlying41 hi0 hz0 hz1 hz2 rfl (by decide) _ _ _ rfl (unhide O5) ⟨w4.heap.size, 0, none⟩ 1 1 [.int .i64 (n : Int)] rfl rfl (unhide NW) (one_int' _) (by unfold maxLen; rw [unhide HN]; omega) (by rw [unhide HN]; omega) m5 ?_
               intro v6 w6 own6 grow6 _
               obtain ⟨K, hK⟩ : ∃ K, 0 + ns.length + 1 = K := ⟨_, rfl⟩
               rw [hK] at own6
               obtain ⟨ao6, cap6, rfl, hc6, hm6⟩ := own_slice own6
               have HK := hide hK
               have b6 : Below M W2 w6 := (unhide B5).grown grow6 m5 (fun b hb => (own_tag (unhide O5) b hb).1)
               have x6 : w6.heap[B]? = some (.cells (Pr.mk id l S MO ns (.slice ao N cn)).arr 55 (0, 0)) := (b6.block B hMB).trans (unhide V2)
               have j4 : w6.cell? ⟨B, 4, none⟩ = some (.slice ao N cn) := bcell x6 rfl
               have jf : w6.frozen? ⟨B, 4, none⟩ = false := free_of_block x6
               have O6 := hide own6
               have B6 := hide b6
               have X6 := hide x6
               clear hi0 hz0 hz1 hz2 own6 grow6 b6 x6 hK))
          obtain ⟨r', hr'⟩ : ∃ r', Pr.mk id l S MO (ns ++ [n]) (.slice ao6 K cap6) = r' := ⟨_, rfl⟩
          obtain ⟨W7, hW7⟩ : ∃ W7, w6.setCell ⟨B, 4, none⟩ (.slice ao6 K cap6) = W7 := ⟨_, rfl⟩
          have x7 : W7.heap[B]? = some (.cells r'.arr 55 (0, 0)) := by rw [← hW7, setCell_block (unhide X6), ← hr']; rfl
          have hVM : V.heap.size = M := by rw [← unhide HM, unhide S2]
          have k7 : ∀ b, b < M → b ≠ B → W7.heap[b]? = V.heap[b]? := fun b hb hne => by
            rw [← hW7, Below.heap_setCell w6 ⟨B, 4, none⟩ _ b hne, (unhide B6).block b hb, unhide K2 b hne]
          obtain ⟨_, hxV, hpV, hnsV⟩ := unhide XV
          have hx7 : W7.heap[x]? = some (.cells #[.int .i64 life, .int .i64 (ref : Int), .slice (some ⟨g, 0, none⟩) m cap] 30 (0, 0)) := (k7 x (by omega) (by omega)).trans hxV
          have hp7 : Pw base W7 (.slice (some ⟨g, 0, none⟩) m cap) ps1 := hpV.kept' (k7 g (by omega) (by omega))
          obtain ⟨W8, hW8⟩ : ∃ W8, setPr W7 g (k * 5) r' = W8 := ⟨_, rfl⟩
          have FIN : Hid ((∃ v' nv', Xk base W8 x v' life ref (ps1.set k ⟨id, l, r.sent, max r.most n, r.ns ++ [n], nv'⟩)) ∧ Only base [30, 55] w W8) := by
            obtain ⟨q1, q2, q3⟩ := unhide HEQ
            have hoV := unhide OV
            have hgt : ∃ cs, V.heap[g]? = some (.cells cs 55 (0, 0)) := by
              rcases hpV.slice with ⟨h0, _⟩ | ⟨g', cap', cs', h0, _, hh, _⟩
              · cases h0
              · cases h0; exact ⟨cs', hh⟩
            obtain ⟨cg, hcg⟩ := hgt
            have k8 : ∀ b, b < M → b ≠ B → b ≠ g → W8.heap[b]? = V.heap[b]? := fun b hb h1 h2 => by rw [← hW8, setPr_other h2]; exact k7 b hb h1
            have ht8 : ∀ (b : Nat) (cs : Array Value) (t : TypeId), V.heap[b]? = some (.cells cs t (0, 0)) → t ≠ 55 → W8.heap[b]? = V.heap[b]? := fun b cs t hb ht => k8 b (by rw [← hVM]; exact blk_lt' hb) (fun e => by subst e; rw [unhide V1] at hb; cases hb; exact ht rfl) (fun e => by subst e; rw [hcg] at hb; cases hb; exact ht rfl)
            have hbM : base ≤ M := by omega
            have hbb : Below base V W8 := by
              rw [← hW8]
              refine Below.trans ?_ (setPr_below hbg _)
              rw [← hW7]
              refine Below.setCell ?_ (p := ⟨B, 4, none⟩) (by show base ≤ B; omega) _
              exact ((unhide BV2).mono (by omega)).trans ((unhide B6).mono hbM)
            have o8 : Only base [30, 55] V W8 := ⟨hbb, fun b hb hn => by
              refine k8 b (by rw [← hVM]; exact hb) (fun e => ?_) (fun e => ?_)
              · subst e; exact hn _ _ _ (unhide V1) (by simp)
              · subst e; exact hn _ _ _ hcg (by simp)⟩
            have p8 : Pw base W8 (.slice (some ⟨g, 0, none⟩) m cap) (ps1.set k r') := by rw [← hW8]; exact hp7.put hn.symm (unhide HMK) r'
            have hmx' : max r.most n = MO := by rw [q2]; omega
            refine ⟨⟨_, .slice ao6 K cap6, hbx, (k8 x (by omega) (by omega) (fun e => hgx e.symm)).trans hxV, ?_, fun q hq => ?_⟩, hoV.trans o8⟩
            · rw [q1, hmx', q3, hr']; exact p8
            · rw [q1, hmx', q3, hr'] at hq
              rcases List.mem_or_eq_of_mem_set hq with hq | rfl
              · exact (hnsV q hq).kept fun b cs hb => ht8 b cs _ hb (by decide)
              · have own6 := unhide O6
                rw [← hr']
                have h1 : W8.ownsRow M 3 1 (.slice ao6 K cap6) K ([] ++ nums ns ++ [.int .i64 (n : Int)]) := by
                  refine own_kept own6 fun b hb => ?_
                  obtain ⟨hMb, cur, fr, hc⟩ := own_tag own6 b hb
                  rw [← hW8, setPr_other (by omega), ← hW7, Below.heap_setCell w6 ⟨B, 4, none⟩ _ b (by show b ≠ B; omega)]
                have h2 : K = (ns ++ [n]).length := by rw [List.length_append, ← unhide HK]; simp
                show World.ownsRow _ _ _ _ _ _ _
                have h3 : [] ++ nums ns ++ [.int .i64 (n : Int)] = (ns ++ [n]).map (fun n : Nat => Value.int .i64 (n : Int)) := by simp [nums]
                rw [h3] at h1
                rw [← h2]
                exact own_base h1 hbM
          have HW7 := hide hW7
          have HW8 := hide hW8
          have z2 : W7.cell? ⟨x, 2, none⟩ = some (.slice (some ⟨g, 0, none⟩) m cap) := bcell hx7 rfl
          rw [← hr'] at x7
          have y0 : W7.cell? ⟨B, 0, none⟩ = some (.int .i64 id) := bcell x7 rfl
          have y1 : W7.cell? ⟨B, 1, none⟩ = some (.int .i64 (l : Int)) := bcell x7 rfl
          have y2 : W7.cell? ⟨B, 2, none⟩ = some (.int .i64 (S : Int)) := bcell x7 rfl
          have y3 : W7.cell? ⟨B, 3, none⟩ = some (.int .i64 (MO : Int)) := bcell x7 rfl
          have y4 : W7.cell? ⟨B, 4, none⟩ = some (.slice ao6 K cap6) := bcell x7 rfl
          obtain ⟨t0, s0⟩ := hp7.cell hn.symm (unhide HMK) (j := 0) rfl
          obtain ⟨t1, s1⟩ := hp7.cell hn.symm (unhide HMK) (j := 1) rfl
          obtain ⟨t2, s2⟩ := hp7.cell hn.symm (unhide HMK) (j := 2) rfl
          obtain ⟨t3, s3⟩ := hp7.cell hn.symm (unhide HMK) (j := 3) rfl
          obtain ⟨t4, s4⟩ := hp7.cell hn.symm (unhide HMK) (j := 4) rfl
          rw [Nat.add_zero] at t0 s0
          have HR' := hide hr'
          obtain ⟨nvr, hnvr⟩ : ∃ nvr, r.nv = nvr := ⟨_, rfl⟩
          clear hr' hW7 x7 hVM k7 hxV hpV hnsV hx7 hp7 hW8 O6 B6 X6 N3 NR NR2 O3 O5 NW B3 B5 V1 V2 K2 S2 XV OV HW3 HW5 j4 jf h4 g4 d1 d2 d4
          rw [unhide HW7]
          clear HW7
          go_region
          all_goals (
            change Exit.then _ _ _ _ (setPr W7 g (k * 5) (Pr.mk id l S MO (ns ++ [n]) (.slice ao6 K cap6))).drew
            rw [unhide HR', unhide HW8]
            go_wp2
            go_ret
            obtain ⟨⟨v', nv', f1⟩, f2⟩ := unhide FIN
            exact ⟨rfl, ⟨v', nv', f1.below (Below.refl _ _).drew⟩, f2.drew⟩)
  · have hmI : ¬ (n : Int) ≤ (MO : Int) := by omega
    by_cases m1 : (256 : Int) ≤ (MO : Int)
    · have m2 : ¬ (n : Int) ≤ (MO : Int) - 256 := by have := unhide FAR; omega
      go_upto_region 12 with fail
      go_loopg [11] N (fun gg iv wr => ∃ i : Nat, i + gg = N ∧ iv = .int .i64 (i : Int) ∧ wr = V)
      case atStart => exact ⟨0, by omega, rfl, rfl⟩
      case round =>
        obtain ⟨i, hgi, rfl, rfl⟩ := hrel
        by_cases hlt : i < N
        · obtain ⟨y, hy⟩ : ∃ y, ns[i]? = some y := ⟨_, List.getElem?_eq_getElem (by rw [unhide HN]; exact hlt)⟩
          have hyv : (nums ns)[i]? = some (.int .i64 (y : Int)) := by rw [nums, List.getElem?_map, hy]; rfl
          obtain ⟨gn, rfl⟩ := ns_some (unhide NR) hlt
          have cy : wr.cell? ⟨gn, i, none⟩ = some (.int .i64 (y : Int)) := (own_cell (unhide NR) hyv).1
          have hiI : (i : Int) < (N : Int) := by omega
          have HG := hide hgi
          have e : y ≠ n := fun e => unhide HNOT (e ▸ List.mem_of_getElem? hy)
          have eI : ((y : Int) == (n : Int)) = false := by simp; omega
          clear hgi hy hyv e
          go_wp2
          go_roundg (N - (i + 1))
          case measure => have := unhide HG; omega
          case rel => exact ⟨i + 1, by omega, by go_num, rfl⟩
        · have hiI : ¬ (i : Int) < (N : Int) := by omega
          obtain ⟨V, rfl⟩ : ∃ V, V = wr := ⟨_, rfl⟩
          have v1 := unhide V1
          have f3 : V.frozen? ⟨B, 3, none⟩ = false := free_of_block v1
          obtain ⟨W2, hW2⟩ : ∃ W2, V.setCell ⟨B, 3, none⟩ (.int .i64 (n : Int)) = W2 := ⟨_, rfl⟩
          have v2 : W2.heap[B]? = some (.cells (Pr.mk id l S n ns (.slice ao N cn)).arr 55 (0, 0)) := by rw [← hW2, setCell_block v1]; rfl
          have s2 : W2.heap.size = V.heap.size := by rw [← hW2]; exact setCell_size _ _ _
          have k2 : ∀ b, b ≠ B → W2.heap[b]? = V.heap[b]? := fun b hb => by rw [← hW2]; exact Below.heap_setCell V ⟨B, 3, none⟩ _ b hb
          have g4 : W2.cell? ⟨B, 4, none⟩ = some (.slice ao N cn) := bcell v2 rfl
          have NR2 : Hid (W2.ownsRow base 3 1 (.slice ao N cn) ns.length (nums ns)) := by
            show World.ownsRow _ _ _ _ _ _ _
            rw [unhide HN]
            refine own_kept (unhide NR) fun b hb => k2 b (fun e => ?_)
            obtain ⟨_, cur, fr, hc⟩ := own_tag (unhide NR) b hb
            rw [e, v1] at hc; cases hc
          have BV2 : Hid (Below B V W2) := by rw [← hW2]; exact (Below.refl _ V).setCell (p := ⟨B, 3, none⟩) (Nat.le_refl _) _
          have HW2 := hide hW2
          have V2 := hide v2
          have K2 := hide k2
          have S2 := hide s2
          clear v1 hW2 v2 k2 s2 hgi
          go_upto_region 17 with fail
          rw [unhide HW2]
          clear HW2 d3 f3
          obtain ⟨W3, hW3⟩ : ∃ W3, W2.alloc (.cells #[] 3) = W3 := ⟨_, rfl⟩
          have b3 : Below W2.heap.size W2 W3 := by rw [← hW3]; exact (Below.refl _ W2).alloc (Nat.le_refl _) _
          obtain ⟨M, hM⟩ : ∃ M, W2.heap.size = M := ⟨_, rfl⟩
          have own3 : W3.ownsRow M 3 1 (.slice (some ⟨M, 0, none⟩) 0 0) 0 [] := by rw [← hW3, ← hM]; exact World.ownsRow_made W2 #[] 0 (Nat.le_refl _) (by decide) rfl
          have nr3 : W3.ownsRow base 3 1 (.slice ao N cn) ns.length (nums ns) := own_below (unhide NR2) b3
          have x3 : W3.heap[B]? = some (.cells (Pr.mk id l S n ns (.slice ao N cn)).arr 55 (0, 0)) := (b3.block B (blk_lt' (unhide V2))).trans (unhide V2)
          have h4 : (W2.alloc (.cells #[] 3)).cell? ⟨B, 4, none⟩ = some (.slice ao N cn) := by rw [hW3]; exact bcell x3 rfl
          have hMB : B < M := by rw [← hM]; exact blk_lt' (unhide V2)
          rw [hM] at b3
          have m3 : M ≤ W3.heap.size := by have := b3.size; omega
          have O3 := hide own3
          have N3 := hide nr3
          have B3 := hide b3
          have X3 := hide x3
          have HW3 := hide hW3
          have HM := hide hM
          clear own3 nr3 b3 x3 hW3 hM
          go_upto_region 18 with (first
            | (at_builtin
               rw [unhide HW3, unhide HM]
               refine wpList_append_ints rfl (.tmp 70) (.tmp 72) rfl M base _ 0 [] rfl (unhide O3) _ ns rfl (unhide N3) (by rw [unhide HN]; omega) m3 ?_
               intro v4 w4 own4 b4
               obtain ⟨W5, hW5⟩ : ∃ W5, w4.alloc (.cells #[.int .i64 (n : Int)] 3) = W5 := ⟨_, rfl⟩
               have b5 : Below w4.heap.size w4 W5 := by rw [← hW5]; exact (Below.refl _ w4).alloc (Nat.le_refl _) _
               have own5 := own_below own4 b5
               have m4 : M ≤ w4.heap.size := Nat.le_trans m3 b4.size
               have m5 : M ≤ W5.heap.size := Nat.le_trans m4 b5.size
               have nw : ∀ i u, [Value.int .i64 (n : Int)][i]? = some u → W5.cell? ((⟨w4.heap.size, 0, none⟩ : Addr).add i) = some u := by rw [← hW5]; exact fun i u h => news_at i u h
               have B5 := hide ((unhide B3).trans (b4.trans (b5.mono m4)))
               have O5 := hide own5
               have NW := hide nw
               have HW5 := hide hW5
               clear own4 b4 b5 own5 nw hW5)
            | (at_builtin
               rw [unhide HW5]
               obtain ⟨i0, hi0, hz0, hz1, hz2⟩ := infoInt'
               refine wpList_append_own _ rfl (.tmp 73) (.tmp 75) 41 rfl M 3 i0 (.int .i64 0) 1 8 Try.underlying41 hi0 hz0 hz1 hz2 rfl (by decide) _ _ _ rfl (unhide O5) ⟨w4.heap.size, 0, none⟩ 1 1 [.int .i64 (n : Int)] rfl rfl (unhide NW) (one_int' _) (by unfold maxLen; rw [unhide HN]; omega) (by rw [unhide HN]; omega) m5 ?_
               intro v6 w6 own6 grow6 _
               obtain ⟨K, hK⟩ : ∃ K, 0 + ns.length + 1 = K := ⟨_, rfl⟩
               rw [hK] at own6
               obtain ⟨ao6, cap6, rfl, hc6, hm6⟩ := own_slice own6
               have HK := hide hK
               have b6 : Below M W2 w6 := (unhide B5).grown grow6 m5 (fun b hb => (own_tag (unhide O5) b hb).1)
               have x6 : w6.heap[B]? = some (.cells (Pr.mk id l S n ns (.slice ao N cn)).arr 55 (0, 0)) := (b6.block B hMB).trans (unhide V2)
               have j4 : w6.cell? ⟨B, 4, none⟩ = some (.slice ao N cn) := bcell x6 rfl
               have jf : w6.frozen? ⟨B, 4, none⟩ = false := free_of_block x6
               have O6 := hide own6
               have B6 := hide b6
               have X6 := hide x6
               clear hi0 hz0 hz1 hz2 own6 grow6 b6 x6 hK))
          obtain ⟨r', hr'⟩ : ∃ r', Pr.mk id l S n (ns ++ [n]) (.slice ao6 K cap6) = r' := ⟨_, rfl⟩
          obtain ⟨W7, hW7⟩ : ∃ W7, w6.setCell ⟨B, 4, none⟩ (.slice ao6 K cap6) = W7 := ⟨_, rfl⟩
          have x7 : W7.heap[B]? = some (.cells r'.arr 55 (0, 0)) := by rw [← hW7, setCell_block (unhide X6), ← hr']; rfl
          have hVM : V.heap.size = M := by rw [← unhide HM, unhide S2]
          have k7 : ∀ b, b < M → b ≠ B → W7.heap[b]? = V.heap[b]? := fun b hb hne => by
            rw [← hW7, Below.heap_setCell w6 ⟨B, 4, none⟩ _ b hne, (unhide B6).block b hb, unhide K2 b hne]
          obtain ⟨_, hxV, hpV, hnsV⟩ := unhide XV
          have hx7 : W7.heap[x]? = some (.cells #[.int .i64 life, .int .i64 (ref : Int), .slice (some ⟨g, 0, none⟩) m cap] 30 (0, 0)) := (k7 x (by omega) (by omega)).trans hxV
          have hp7 : Pw base W7 (.slice (some ⟨g, 0, none⟩) m cap) ps1 := hpV.kept' (k7 g (by omega) (by omega))
          obtain ⟨W8, hW8⟩ : ∃ W8, setPr W7 g (k * 5) r' = W8 := ⟨_, rfl⟩
          have FIN : Hid ((∃ v' nv', Xk base W8 x v' life ref (ps1.set k ⟨id, l, r.sent, max r.most n, r.ns ++ [n], nv'⟩)) ∧ Only base [30, 55] w W8) := by
            obtain ⟨q1, q2, q3⟩ := unhide HEQ
            have hoV := unhide OV
            have hgt : ∃ cs, V.heap[g]? = some (.cells cs 55 (0, 0)) := by
              rcases hpV.slice with ⟨h0, _⟩ | ⟨g', cap', cs', h0, _, hh, _⟩
              · cases h0
              · cases h0; exact ⟨cs', hh⟩
            obtain ⟨cg, hcg⟩ := hgt
            have k8 : ∀ b, b < M → b ≠ B → b ≠ g → W8.heap[b]? = V.heap[b]? := fun b hb h1 h2 => by rw [← hW8, setPr_other h2]; exact k7 b hb h1
            have ht8 : ∀ (b : Nat) (cs : Array Value) (t : TypeId), V.heap[b]? = some (.cells cs t (0, 0)) → t ≠ 55 → W8.heap[b]? = V.heap[b]? := fun b cs t hb ht => k8 b (by rw [← hVM]; exact blk_lt' hb) (fun e => by subst e; rw [unhide V1] at hb; cases hb; exact ht rfl) (fun e => by subst e; rw [hcg] at hb; cases hb; exact ht rfl)
            have hbM : base ≤ M := by omega
            have hbb : Below base V W8 := by
              rw [← hW8]
              refine Below.trans ?_ (setPr_below hbg _)
              rw [← hW7]
              refine Below.setCell ?_ (p := ⟨B, 4, none⟩) (by show base ≤ B; omega) _
              exact ((unhide BV2).mono (by omega)).trans ((unhide B6).mono hbM)
            have o8 : Only base [30, 55] V W8 := ⟨hbb, fun b hb hn => by
              refine k8 b (by rw [← hVM]; exact hb) (fun e => ?_) (fun e => ?_)
              · subst e; exact hn _ _ _ (unhide V1) (by simp)
              · subst e; exact hn _ _ _ hcg (by simp)⟩
            have p8 : Pw base W8 (.slice (some ⟨g, 0, none⟩) m cap) (ps1.set k r') := by rw [← hW8]; exact hp7.put hn.symm (unhide HMK) r'
            have hmx' : max r.most n = n := by rw [q2]; omega
            refine ⟨⟨_, .slice ao6 K cap6, hbx, (k8 x (by omega) (by omega) (fun e => hgx e.symm)).trans hxV, ?_, fun q hq => ?_⟩, hoV.trans o8⟩
            · rw [q1, hmx', q3, hr']; exact p8
            · rw [q1, hmx', q3, hr'] at hq
              rcases List.mem_or_eq_of_mem_set hq with hq | rfl
              · exact (hnsV q hq).kept fun b cs hb => ht8 b cs _ hb (by decide)
              · have own6 := unhide O6
                rw [← hr']
                have h1 : W8.ownsRow M 3 1 (.slice ao6 K cap6) K ([] ++ nums ns ++ [.int .i64 (n : Int)]) := by
                  refine own_kept own6 fun b hb => ?_
                  obtain ⟨hMb, cur, fr, hc⟩ := own_tag own6 b hb
                  rw [← hW8, setPr_other (by omega), ← hW7, Below.heap_setCell w6 ⟨B, 4, none⟩ _ b (by show b ≠ B; omega)]
                have h2 : K = (ns ++ [n]).length := by rw [List.length_append, ← unhide HK]; simp
                show World.ownsRow _ _ _ _ _ _ _
                have h3 : [] ++ nums ns ++ [.int .i64 (n : Int)] = (ns ++ [n]).map (fun n : Nat => Value.int .i64 (n : Int)) := by simp [nums]
                rw [h3] at h1
                rw [← h2]
                exact own_base h1 hbM
          have HW7 := hide hW7
          have HW8 := hide hW8
          have z2 : W7.cell? ⟨x, 2, none⟩ = some (.slice (some ⟨g, 0, none⟩) m cap) := bcell hx7 rfl
          rw [← hr'] at x7
          have y0 : W7.cell? ⟨B, 0, none⟩ = some (.int .i64 id) := bcell x7 rfl
          have y1 : W7.cell? ⟨B, 1, none⟩ = some (.int .i64 (l : Int)) := bcell x7 rfl
          have y2 : W7.cell? ⟨B, 2, none⟩ = some (.int .i64 (S : Int)) := bcell x7 rfl
          have y3 : W7.cell? ⟨B, 3, none⟩ = some (.int .i64 (n : Int)) := bcell x7 rfl
          have y4 : W7.cell? ⟨B, 4, none⟩ = some (.slice ao6 K cap6) := bcell x7 rfl
          obtain ⟨t0, s0⟩ := hp7.cell hn.symm (unhide HMK) (j := 0) rfl
          obtain ⟨t1, s1⟩ := hp7.cell hn.symm (unhide HMK) (j := 1) rfl
          obtain ⟨t2, s2⟩ := hp7.cell hn.symm (unhide HMK) (j := 2) rfl
          obtain ⟨t3, s3⟩ := hp7.cell hn.symm (unhide HMK) (j := 3) rfl
          obtain ⟨t4, s4⟩ := hp7.cell hn.symm (unhide HMK) (j := 4) rfl
          rw [Nat.add_zero] at t0 s0
          have HR' := hide hr'
          obtain ⟨nvr, hnvr⟩ : ∃ nvr, r.nv = nvr := ⟨_, rfl⟩
          clear hr' hW7 x7 hVM k7 hxV hpV hnsV hx7 hp7 hW8 O6 B6 X6 N3 NR NR2 O3 O5 NW B3 B5 V1 V2 K2 S2 XV OV HW3 HW5 j4 jf h4 g4 d1 d2 d4
          rw [unhide HW7]
          clear HW7
          go_region
          all_goals (
            change Exit.then _ _ _ _ (setPr W7 g (k * 5) (Pr.mk id l S n (ns ++ [n]) (.slice ao6 K cap6))).drew
            rw [unhide HR', unhide HW8]
            go_wp2
            go_ret
            obtain ⟨⟨v', nv', f1⟩, f2⟩ := unhide FIN
            exact ⟨rfl, ⟨v', nv', f1.below (Below.refl _ _).drew⟩, f2.drew⟩)
    · go_upto_region 12 with fail
      go_loopg [11] N (fun gg iv wr => ∃ i : Nat, i + gg = N ∧ iv = .int .i64 (i : Int) ∧ wr = V)
      case atStart => exact ⟨0, by omega, rfl, rfl⟩
      case round =>
        obtain ⟨i, hgi, rfl, rfl⟩ := hrel
        by_cases hlt : i < N
        · obtain ⟨y, hy⟩ : ∃ y, ns[i]? = some y := ⟨_, List.getElem?_eq_getElem (by rw [unhide HN]; exact hlt)⟩
          have hyv : (nums ns)[i]? = some (.int .i64 (y : Int)) := by rw [nums, List.getElem?_map, hy]; rfl
          obtain ⟨gn, rfl⟩ := ns_some (unhide NR) hlt
          have cy : wr.cell? ⟨gn, i, none⟩ = some (.int .i64 (y : Int)) := (own_cell (unhide NR) hyv).1
          have hiI : (i : Int) < (N : Int) := by omega
          have HG := hide hgi
          have e : y ≠ n := fun e => unhide HNOT (e ▸ List.mem_of_getElem? hy)
          have eI : ((y : Int) == (n : Int)) = false := by simp; omega
          clear hgi hy hyv e
          go_wp2
          go_roundg (N - (i + 1))
          case measure => have := unhide HG; omega
          case rel => exact ⟨i + 1, by omega, by go_num, rfl⟩
        · have hiI : ¬ (i : Int) < (N : Int) := by omega
          obtain ⟨V, rfl⟩ : ∃ V, V = wr := ⟨_, rfl⟩
          have v1 := unhide V1
          have f3 : V.frozen? ⟨B, 3, none⟩ = false := free_of_block v1
          obtain ⟨W2, hW2⟩ : ∃ W2, V.setCell ⟨B, 3, none⟩ (.int .i64 (n : Int)) = W2 := ⟨_, rfl⟩
          have v2 : W2.heap[B]? = some (.cells (Pr.mk id l S n ns (.slice ao N cn)).arr 55 (0, 0)) := by rw [← hW2, setCell_block v1]; rfl
          have s2 : W2.heap.size = V.heap.size := by rw [← hW2]; exact setCell_size _ _ _
          have k2 : ∀ b, b ≠ B → W2.heap[b]? = V.heap[b]? := fun b hb => by rw [← hW2]; exact Below.heap_setCell V ⟨B, 3, none⟩ _ b hb
          have g4 : W2.cell? ⟨B, 4, none⟩ = some (.slice ao N cn) := bcell v2 rfl
          have NR2 : Hid (W2.ownsRow base 3 1 (.slice ao N cn) ns.length (nums ns)) := by
            show World.ownsRow _ _ _ _ _ _ _
            rw [unhide HN]
            refine own_kept (unhide NR) fun b hb => k2 b (fun e => ?_)
            obtain ⟨_, cur, fr, hc⟩ := own_tag (unhide NR) b hb
            rw [e, v1] at hc; cases hc
          have BV2 : Hid (Below B V W2) := by rw [← hW2]; exact (Below.refl _ V).setCell (p := ⟨B, 3, none⟩) (Nat.le_refl _) _
          have HW2 := hide hW2
          have V2 := hide v2
          have K2 := hide k2
          have S2 := hide s2
          clear v1 hW2 v2 k2 s2 hgi
          go_upto_region 17 with fail
          rw [unhide HW2]
          clear HW2 d3 f3
          obtain ⟨W3, hW3⟩ : ∃ W3, W2.alloc (.cells #[] 3) = W3 := ⟨_, rfl⟩
          have b3 : Below W2.heap.size W2 W3 := by rw [← hW3]; exact (Below.refl _ W2).alloc (Nat.le_refl _) _
          obtain ⟨M, hM⟩ : ∃ M, W2.heap.size = M := ⟨_, rfl⟩
          have own3 : W3.ownsRow M 3 1 (.slice (some ⟨M, 0, none⟩) 0 0) 0 [] := by rw [← hW3, ← hM]; exact World.ownsRow_made W2 #[] 0 (Nat.le_refl _) (by decide) rfl
          have nr3 : W3.ownsRow base 3 1 (.slice ao N cn) ns.length (nums ns) := own_below (unhide NR2) b3
          have x3 : W3.heap[B]? = some (.cells (Pr.mk id l S n ns (.slice ao N cn)).arr 55 (0, 0)) := (b3.block B (blk_lt' (unhide V2))).trans (unhide V2)
          have h4 : (W2.alloc (.cells #[] 3)).cell? ⟨B, 4, none⟩ = some (.slice ao N cn) := by rw [hW3]; exact bcell x3 rfl
          have hMB : B < M := by rw [← hM]; exact blk_lt' (unhide V2)
          rw [hM] at b3
          have m3 : M ≤ W3.heap.size := by have := b3.size; omega
          have O3 := hide own3
          have N3 := hide nr3
          have B3 := hide b3
          have X3 := hide x3
          have HW3 := hide hW3
          have HM := hide hM
          clear own3 nr3 b3 x3 hW3 hM
          go_upto_region 18 with (first
            | (at_builtin
               rw [unhide HW3, unhide HM]
               refine wpList_append_ints rfl (.tmp 70) (.tmp 72) rfl M base _ 0 [] rfl (unhide O3) _ ns rfl (unhide N3) (by rw [unhide HN]; omega) m3 ?_
               intro v4 w4 own4 b4
               obtain ⟨W5, hW5⟩ : ∃ W5, w4.alloc (.cells #[.int .i64 (n : Int)] 3) = W5 := ⟨_, rfl⟩
               have b5 : Below w4.heap.size w4 W5 := by rw [← hW5]; exact (Below.refl _ w4).alloc (Nat.le_refl _) _
               have own5 := own_below own4 b5
               have m4 : M ≤ w4.heap.size := Nat.le_trans m3 b4.size
               have m5 : M ≤ W5.heap.size := Nat.le_trans m4 b5.size
               have nw : ∀ i u, [Value.int .i64 (n : Int)][i]? = some u → W5.cell? ((⟨w4.heap.size, 0, none⟩ : Addr).add i) = some u := by rw [← hW5]; exact fun i u h => news_at i u h
               have B5 := hide ((unhide B3).trans (b4.trans (b5.mono m4)))
               have O5 := hide own5
               have NW := hide nw
               have HW5 := hide hW5
               clear own4 b4 b5 own5 nw hW5)
            | (at_builtin
               rw [unhide HW5]
               obtain ⟨i0, hi0, hz0, hz1, hz2⟩ := infoInt'
               refine wpList_append_own _ rfl (.tmp 73) (.tmp 75) 41 rfl M 3 i0 (.int .i64 0) 1 8 Try.underlying41 hi0 hz0 hz1 hz2 rfl (by decide) _ _ _ rfl (unhide O5) ⟨w4.heap.size, 0, none⟩ 1 1 [.int .i64 (n : Int)] rfl rfl (unhide NW) (one_int' _) (by unfold maxLen; rw [unhide HN]; omega) (by rw [unhide HN]; omega) m5 ?_
               intro v6 w6 own6 grow6 _
               obtain ⟨K, hK⟩ : ∃ K, 0 + ns.length + 1 = K := ⟨_, rfl⟩
               rw [hK] at own6
               obtain ⟨ao6, cap6, rfl, hc6, hm6⟩ := own_slice own6
               have HK := hide hK
               have b6 : Below M W2 w6 := (unhide B5).grown grow6 m5 (fun b hb => (own_tag (unhide O5) b hb).1)
               have x6 : w6.heap[B]? = some (.cells (Pr.mk id l S n ns (.slice ao N cn)).arr 55 (0, 0)) := (b6.block B hMB).trans (unhide V2)
               have j4 : w6.cell? ⟨B, 4, none⟩ = some (.slice ao N cn) := bcell x6 rfl
               have jf : w6.frozen? ⟨B, 4, none⟩ = false := free_of_block x6
               have O6 := hide own6
               have B6 := hide b6
               have X6 := hide x6
               clear hi0 hz0 hz1 hz2 own6 grow6 b6 x6 hK))
          obtain ⟨r', hr'⟩ : ∃ r', Pr.mk id l S n (ns ++ [n]) (.slice ao6 K cap6) = r' := ⟨_, rfl⟩
          obtain ⟨W7, hW7⟩ : ∃ W7, w6.setCell ⟨B, 4, none⟩ (.slice ao6 K cap6) = W7 := ⟨_, rfl⟩
          have x7 : W7.heap[B]? = some (.cells r'.arr 55 (0, 0)) := by rw [← hW7, setCell_block (unhide X6), ← hr']; rfl
          have hVM : V.heap.size = M := by rw [← unhide HM, unhide S2]
          have k7 : ∀ b, b < M → b ≠ B → W7.heap[b]? = V.heap[b]? := fun b hb hne => by
            rw [← hW7, Below.heap_setCell w6 ⟨B, 4, none⟩ _ b hne, (unhide B6).block b hb, unhide K2 b hne]
          obtain ⟨_, hxV, hpV, hnsV⟩ := unhide XV
          have hx7 : W7.heap[x]? = some (.cells #[.int .i64 life, .int .i64 (ref : Int), .slice (some ⟨g, 0, none⟩) m cap] 30 (0, 0)) := (k7 x (by omega) (by omega)).trans hxV
          have hp7 : Pw base W7 (.slice (some ⟨g, 0, none⟩) m cap) ps1 := hpV.kept' (k7 g (by omega) (by omega))
          obtain ⟨W8, hW8⟩ : ∃ W8, setPr W7 g (k * 5) r' = W8 := ⟨_, rfl⟩
          have FIN : Hid ((∃ v' nv', Xk base W8 x v' life ref (ps1.set k ⟨id, l, r.sent, max r.most n, r.ns ++ [n], nv'⟩)) ∧ Only base [30, 55] w W8) := by
            obtain ⟨q1, q2, q3⟩ := unhide HEQ
            have hoV := unhide OV
            have hgt : ∃ cs, V.heap[g]? = some (.cells cs 55 (0, 0)) := by
              rcases hpV.slice with ⟨h0, _⟩ | ⟨g', cap', cs', h0, _, hh, _⟩
              · cases h0
              · cases h0; exact ⟨cs', hh⟩
            obtain ⟨cg, hcg⟩ := hgt
            have k8 : ∀ b, b < M → b ≠ B → b ≠ g → W8.heap[b]? = V.heap[b]? := fun b hb h1 h2 => by rw [← hW8, setPr_other h2]; exact k7 b hb h1
            have ht8 : ∀ (b : Nat) (cs : Array Value) (t : TypeId), V.heap[b]? = some (.cells cs t (0, 0)) → t ≠ 55 → W8.heap[b]? = V.heap[b]? := fun b cs t hb ht => k8 b (by rw [← hVM]; exact blk_lt' hb) (fun e => by subst e; rw [unhide V1] at hb; cases hb; exact ht rfl) (fun e => by subst e; rw [hcg] at hb; cases hb; exact ht rfl)
            have hbM : base ≤ M := by omega
            have hbb : Below base V W8 := by
              rw [← hW8]
              refine Below.trans ?_ (setPr_below hbg _)
              rw [← hW7]
              refine Below.setCell ?_ (p := ⟨B, 4, none⟩) (by show base ≤ B; omega) _
              exact ((unhide BV2).mono (by omega)).trans ((unhide B6).mono hbM)
            have o8 : Only base [30, 55] V W8 := ⟨hbb, fun b hb hn => by
              refine k8 b (by rw [← hVM]; exact hb) (fun e => ?_) (fun e => ?_)
              · subst e; exact hn _ _ _ (unhide V1) (by simp)
              · subst e; exact hn _ _ _ hcg (by simp)⟩
            have p8 : Pw base W8 (.slice (some ⟨g, 0, none⟩) m cap) (ps1.set k r') := by rw [← hW8]; exact hp7.put hn.symm (unhide HMK) r'
            have hmx' : max r.most n = n := by rw [q2]; omega
            refine ⟨⟨_, .slice ao6 K cap6, hbx, (k8 x (by omega) (by omega) (fun e => hgx e.symm)).trans hxV, ?_, fun q hq => ?_⟩, hoV.trans o8⟩
            · rw [q1, hmx', q3, hr']; exact p8
            · rw [q1, hmx', q3, hr'] at hq
              rcases List.mem_or_eq_of_mem_set hq with hq | rfl
              · exact (hnsV q hq).kept fun b cs hb => ht8 b cs _ hb (by decide)
              · have own6 := unhide O6
                rw [← hr']
                have h1 : W8.ownsRow M 3 1 (.slice ao6 K cap6) K ([] ++ nums ns ++ [.int .i64 (n : Int)]) := by
                  refine own_kept own6 fun b hb => ?_
                  obtain ⟨hMb, cur, fr, hc⟩ := own_tag own6 b hb
                  rw [← hW8, setPr_other (by omega), ← hW7, Below.heap_setCell w6 ⟨B, 4, none⟩ _ b (by show b ≠ B; omega)]
                have h2 : K = (ns ++ [n]).length := by rw [List.length_append, ← unhide HK]; simp
                show World.ownsRow _ _ _ _ _ _ _
                have h3 : [] ++ nums ns ++ [.int .i64 (n : Int)] = (ns ++ [n]).map (fun n : Nat => Value.int .i64 (n : Int)) := by simp [nums]
                rw [h3] at h1
                rw [← h2]
                exact own_base h1 hbM
          have HW7 := hide hW7
          have HW8 := hide hW8
          have z2 : W7.cell? ⟨x, 2, none⟩ = some (.slice (some ⟨g, 0, none⟩) m cap) := bcell hx7 rfl
          rw [← hr'] at x7
          have y0 : W7.cell? ⟨B, 0, none⟩ = some (.int .i64 id) := bcell x7 rfl
          have y1 : W7.cell? ⟨B, 1, none⟩ = some (.int .i64 (l : Int)) := bcell x7 rfl
          have y2 : W7.cell? ⟨B, 2, none⟩ = some (.int .i64 (S : Int)) := bcell x7 rfl
          have y3 : W7.cell? ⟨B, 3, none⟩ = some (.int .i64 (n : Int)) := bcell x7 rfl
          have y4 : W7.cell? ⟨B, 4, none⟩ = some (.slice ao6 K cap6) := bcell x7 rfl
          obtain ⟨t0, s0⟩ := hp7.cell hn.symm (unhide HMK) (j := 0) rfl
          obtain ⟨t1, s1⟩ := hp7.cell hn.symm (unhide HMK) (j := 1) rfl
          obtain ⟨t2, s2⟩ := hp7.cell hn.symm (unhide HMK) (j := 2) rfl
          obtain ⟨t3, s3⟩ := hp7.cell hn.symm (unhide HMK) (j := 3) rfl
          obtain ⟨t4, s4⟩ := hp7.cell hn.symm (unhide HMK) (j := 4) rfl
          rw [Nat.add_zero] at t0 s0
          have HR' := hide hr'
          obtain ⟨nvr, hnvr⟩ : ∃ nvr, r.nv = nvr := ⟨_, rfl⟩
          clear hr' hW7 x7 hVM k7 hxV hpV hnsV hx7 hp7 hW8 O6 B6 X6 N3 NR NR2 O3 O5 NW B3 B5 V1 V2 K2 S2 XV OV HW3 HW5 j4 jf h4 g4 d1 d2 d4
          rw [unhide HW7]
          clear HW7
          go_region
          all_goals (
            change Exit.then _ _ _ _ (setPr W7 g (k * 5) (Pr.mk id l S n (ns ++ [n]) (.slice ao6 K cap6))).drew
            rw [unhide HR', unhide HW8]
            go_wp2
            go_ret
            obtain ⟨⟨v', nv', f1⟩, f2⟩ := unhide FIN
            exact ⟨rfl, ⟨v', nv', f1.below (Below.refl _ _).drew⟩, f2.drew⟩)

end Go.Proofs.Ytkanolmcaoecgaa
