/- LinkOnce: the walk. -/
import Derived.Test.YtkanolmcaoecgaaLSpec
import Derived.Test.YtkanolmcaoecgaaLArgs
import Derived.Test.YtkanolmcaoecgaaLPeW
namespace Go.Proofs.Ytkanolmcaoecgaa
open Go.RowKit Go.Maps

/-- what was heard of a peer of which only numbers below M, in the life L, came. -/
def OfL (L M : Nat) (g : Hd) (f : Nat → Bool) : Prop := ∃ S, Sees g S ∧ (∀ n, n < M → S n = f n) ∧ g.top < M ∧ (g.life = L ∨ g = Hd.none ∧ ∀ n, S n = false)
theorem ofL_none (L M : Nat) (hM : 0 < M) : OfL L M Hd.none fun _ => false := ⟨fun _ => false, sees_none 0, fun _ _ => rfl, hM, Or.inr ⟨rfl, fun _ => rfl⟩⟩
theorem OfL.life {L M : Nat} {g : Hd} {f : Nat → Bool} (h : OfL L M g f) : g.life ≤ L := by
  obtain ⟨S, hs, he, ht, hl | ⟨rfl, _⟩⟩ := h
  · omega
  · exact Nat.zero_le _
theorem OfL.known {L M : Nat} {g : Hd} {f : Nat → Bool} (hL : 1 ≤ L) (h : OfL L M g f) {n : Nat} (h1 : 1 ≤ n) (h2 : n < M) (hf : f n = true) : takeE g (L : Int) (n : Int) = 7 := by
  obtain ⟨S, hs, he, ht, hl⟩ := h
  have hS : S n = true := by rw [he n h2]; exact hf
  rcases hl with hl | ⟨_, hl⟩
  · exact takeE_known hs (by omega) h1 (by rw [hl]) (Or.inr hS)
  · rw [hl n] at hS; cases hS
theorem OfL.free {L M : Nat} {g : Hd} {f : Nat → Bool} (hL : 1 ≤ L) (hM : M ≤ 256) (h : OfL L M g f) {n : Nat} (h1 : 1 ≤ n) (h2 : n < M) (hf : f n = false) : takeE g (L : Int) (n : Int) = 0 ∧ OfL L M (g.taking L n) fun j => f j || decide (j = n) := by
  obtain ⟨S, hs, he, ht, hl⟩ := h
  have hS : S n = false := by rw [he n h2]; exact hf
  rcases hl with hl | ⟨rfl, hl⟩
  · have hlt : ¬ g.life < L := by omega
    refine ⟨takeE_free hs (by omega) h1 (by rw [hl]) (by omega) hS, _, sees_same hs hlt n (by omega), fun j hj => by simp only; rw [he j hj], ?_, Or.inl (by rw [taking_life, if_neg hlt, hl])⟩
    rw [taking_top, if_neg hlt]; omega
  · have hlt : Hd.none.life < L := hL
    refine ⟨takeE_newer _ (by omega) (by show (0 : Int) < L; omega), _, sees_newer hlt n, fun j hj => by simp only; rw [← he j hj, hl j, Bool.false_or], ?_, Or.inl (by rw [taking_life, if_pos hlt])⟩
    rw [taking_top, if_pos hlt]; omega

def upto (k : Nat) : List Value := (List.range k).map fun i => .int .i64 ((i + 1 : Nat) : Int)
theorem upto_succ (k : Nat) : upto (k + 1) = upto k ++ [.int .i64 ((k + 1 : Nat) : Int)] := by simp [upto, List.range_succ]
/-- the forty numbers. -/
def NsAt (w : World) (g : Nat) : Prop := ∃ cur, w.heap[g]? = some (.cells cur 3 (0, 0)) ∧ ∀ j, j < 40 → cur[j]? = some (.int .i64 ((j + 1 : Nat) : Int))
theorem ns_of {w : World} {base : Nat} {v : Value} (h : w.ownsRow base 3 1 v 40 (upto 40)) : ∃ g cap, v = .slice (some ⟨g, 0, none⟩) 40 cap ∧ base ≤ g ∧ 40 ≤ cap ∧ cap ≤ maxLen ∧ NsAt w g := by
  rcases h.2 with ⟨_, h0⟩ | ⟨g, cap, cur, rfl, hb, hh, hc, hm, hs, ht⟩
  · cases h0
  · refine ⟨g, cap, rfl, hb, hc, hm, cur, hh, fun j hj => ?_⟩
    have e : (cur.toList.take (40 * 1))[j]? = (upto 40)[j]? := by rw [ht]
    rw [List.getElem?_take_of_lt (by omega)] at e
    rw [← Array.getElem?_toList, e]
    simp [upto, hj]
theorem NsAt.cell {w : World} {g : Nat} (h : NsAt w g) {j : Nat} (hj : j < 40) : w.cell? ⟨g, j, none⟩ = some (.int .i64 ((j + 1 : Nat) : Int)) := by
  obtain ⟨cur, h1, h2⟩ := h
  exact bcell h1 (h2 j hj)
theorem NsAt.kept {w w' : World} {g : Nat} (h : NsAt w g) (hk : w'.heap[g]? = w.heap[g]?) : NsAt w' g := by
  obtain ⟨cur, h1, h2⟩ := h
  exact ⟨cur, by rw [hk]; exact h1, h2⟩
theorem NsAt.lt {w : World} {g : Nat} (h : NsAt w g) : g < w.heap.size := by
  obtain ⟨cur, h1, h2⟩ := h; exact blk_lt' h1
theorem up_up (f : Int → Nat) (x : Int) (a b : Nat) : up (up f x a) x b = up f x b := by
  funext y; unfold up; split <;> rfl
theorem infoInt : ∃ i, Try.prog.info? 3 = some i ∧ i.zero = some (.int .i64 0) ∧ i.size = 1 ∧ i.bytes = 8 := ⟨_, rfl, rfl, rfl, rfl⟩
theorem one_int (y : Int) : ∀ u ∈ [Value.int .i64 y], u.oneCell' = true := fun u hu => by simp at hu; subst hu; rfl
theorem zero_a41 (w : World) : (zeroValue 42).run Try.prog w = .ok (.agg (Array.replicate 41 (.bool false))) w := by kernel_rfl

/-- behind the first loop's rounds: the numbers so far, both links. -/
def OneAt (base b1 : Nat) (w0 w : World) (v : Value) (pa sa qa pb sb qb k : Nat) : Prop :=
  w.ownsRow b1 3 1 v k (upto k) ∧ Lk w pa sa qa 4 (up (fun _ => 0) 2 k) (fun _ => Hd.none) 0 k ∧ Lk w pb sb qb 9 (fun _ => 0) (fun _ => Hd.none) 0 0 ∧ b1 ≤ w.heap.size ∧ Below base w0 w
/-- behind the second loop's. -/
def TwoAt (base : Nat) (w0 w : World) (A g pb sb qb k : Nat) : Prop :=
  ∃ (heard : Int → Hd) (cs : Array Value) (f : Nat → Bool) (ref : Nat), w.heap[A]? = some (.cells cs 42 (0, 0)) ∧ Bools cs 41 f ∧ Lk w pb sb qb 9 (fun _ => 0) heard ref k ∧ OfL 4 41 (heard 1) f ∧ NsAt w g ∧ Below base w0 w
/-- behind the third's. -/
def ThreeAt (base : Nat) (w0 w : World) (g pb sb qb k : Nat) : Prop :=
  ∃ (heard : Int → Hd) (ref : Nat), Lk w pb sb qb 9 (fun _ => 0) heard ref k ∧ (heard 1).life = 5 ∧ Sees (heard 1) (fun m => decide (m = 1)) ∧ NsAt w g ∧ Below base w0 w

set_option maxRecDepth 20000 in
set_option maxHeartbeats 4000000 in
theorem once_walk (ao : Option Addr) (n cap : Nat) (ys : List Int) (again : Bool) (w : World) (hy : ys.length = n) (hm : n ≤ maxLen) (hi : Ints w ao ys) :
    Calls Try.prog 4 #[.slice ao n cap, .bool again] w fun e w' => e = .returned (.bool true) ∧ Below w.heap.size w w' := by
  obtain ⟨Z, hZ⟩ : ∃ Z, Array.replicate 41 (Value.bool false) = Z := ⟨_, rfl⟩
  have ZB : Hid (Bools Z 41 fun _ => false) := by rw [← hZ]; exact bools_zero 41
  have zz := zero_a41
  rw [hZ] at zz
  have ZZ := hide zz
  have KN := hide (known_any w)
  have HY := hide hy
  have HI := hide hi
  have hm' : n ≤ 9223372036854775807 := by unfold maxLen at hm; omega
  clear hy hi hm hZ zz
  go_enter Try.func4, Try.ntmps4
  go_wp2_with fail
  refine (unhide KN).mono ?_
  rintro e w1 ⟨rfl, b1⟩
  have B1 := hide b1
  have NA := hide (new_at 1 4 w1)
  clear b1 KN
  go_wp2_with fail
  refine (unhide NA).mono ?_
  rintro e w2 ⟨⟨pa, sa, qa, rfl, l2, hp, hs, hq⟩, b2⟩
  have s1 := (unhide B1).size
  have PA : Hid (w.heap.size ≤ pa ∧ w.heap.size ≤ sa ∧ w.heap.size ≤ qa) := ⟨Nat.le_trans s1 hp, Nat.le_trans s1 hs, Nat.le_trans s1 hq⟩
  have B2 := hide ((unhide B1).trans (b2.mono s1))
  have L2 := hide l2
  have NB := hide (new_at 2 9 w2)
  clear hp hs hq b2 l2 s1 NA
  go_wp2_with fail
  refine (unhide NB).mono ?_
  rintro e w3 ⟨⟨pb, sb, qb, rfl, l3, hp, hs, hq⟩, b3⟩
  have s2 := (unhide B2).size
  have PB : Hid (w.heap.size ≤ pb ∧ w.heap.size ≤ sb ∧ w.heap.size ≤ qb) := ⟨Nat.le_trans s2 hp, Nat.le_trans s2 hs, Nat.le_trans s2 hq⟩
  have lta := (unhide L2).lt
  have ltb := l3.lt
  have sz3 := b3.size
  obtain ⟨M, hM⟩ : ∃ M, w3.heap.size = M := ⟨_, rfl⟩
  rw [hM] at ltb sz3
  have LTA : Hid (pa < M ∧ sa < M ∧ qa < M) := ⟨by omega, by omega, by omega⟩
  have LTB := hide ltb
  have DJ : Hid (¬ foot pa sa qa pb ∧ ¬ foot pa sa qa sb ∧ ¬ foot pa sa qa qb) := ⟨fun h => by rcases h with h | h | h <;> omega, fun h => by rcases h with h | h | h <;> omega, fun h => by rcases h with h | h | h <;> omega⟩
  have hMw : w.heap.size ≤ M := by omega
  have e0 : up (fun _ => 0) 2 0 = fun _ => 0 := by funext y; unfold up; split <;> rfl
  have S0 : Hid (OneAt w.heap.size M w w3 (.slice none 0 0) pa sa qa pb sb qb 0) := ⟨⟨rfl, Or.inl ⟨rfl, rfl⟩⟩, by rw [e0]; exact (unhide L2).below b3, l3, by omega, (unhide B2).trans (b3.mono s2)⟩
  have HMW := hide hMw
  clear l3 hp hs hq b3 s2 lta ltb sz3 hM hMw e0 L2 B1 B2 NB
  go_upto_region 6 with fail
  go_loopg [7, 8] 40 (fun gg nv iv wr => ∃ k : Nat, k + gg = 40 ∧ iv = .int .i64 (k : Int) ∧ OneAt w.heap.size M w wr nv pa sa qa pb sb qb k)
  case atStart => exact ⟨0, by omega, rfl, unhide S0⟩
  case round =>
    obtain ⟨k, hgk, rfl, hrow, hla, hlb, hbm, hlow⟩ := hrel
    have hk40 : k ≤ 40 := by omega
    by_cases hlt : k < 40
    · have hkI : (k : Int) < 40 := by omega
      obtain ⟨j, hj⟩ : ∃ j, k + 1 = j := ⟨_, rfl⟩
      have ST := stamp_any (base := w.heap.size) 2 wr (wf_lit 2 (by omega)) (by omega) (unhide PA) hlow.size hla
      rw [up_up, show up (fun _ => 0) 2 k 2 + 1 = j by unfold up; rw [if_pos rfl]; exact hj] at ST
      have HS := hide ST
      obtain ⟨i0, hi0, hz0, hz1, hz2⟩ := infoInt
      have HROW := hide hrow
      have HLB := hide hlb
      have HLOW := hide hlow
      have HG := hide hgk
      have HJ := hide hj
      have HBM := hide hbm
      have HI0 := hide (And.intro hi0 (And.intro hz0 (And.intro hz1 hz2)))
      clear hrow hla hlb hlow hgk ST S0 hj hbm hi0 hz0 hz1 hz2
      go_wp2_with fail
      refine (unhide HS).mono ?_
      rintro e w4 ⟨rfl, l4, k4⟩
      have LTa := unhide LTA
      have row4 : w4.ownsRow M 3 1 u7 k (upto k) := k4.own (unhide HROW) (fun b hb h => by have := (own_tag (unhide HROW) b hb).1; rcases h with h | h | h <;> omega)
      have lb4 : Lk w4 pb sb qb 9 (fun _ => 0) (fun _ => Hd.none) 0 0 := (unhide HLB).other k4 (unhide DJ).1 (unhide DJ).2.1 (unhide DJ).2.2
      have hb4 : M ≤ w4.heap.size := Nat.le_trans (unhide HBM) k4.size
      have low4 := (unhide HLOW).trans k4.1
      obtain ⟨W4, hW4⟩ : ∃ W4, w4.alloc (.cells #[.int .i64 (j : Int)] 3) = W4 := ⟨_, rfl⟩
      have bW : Below w4.heap.size w4 W4 := by rw [← hW4]; exact (Below.refl _ w4).alloc (Nat.le_refl _) _
      have row5 : W4.ownsRow M 3 1 u7 k (upto k) := own_below row4 bW
      have nw : ∀ i u, [Value.int .i64 (j : Int)][i]? = some u → W4.cell? ((⟨w4.heap.size, 0, none⟩ : Addr).add i) = some u := by rw [← hW4]; exact fun i u h => news_at i u h
      have la5 := l4.below bW
      have lb5 := lb4.below bW
      have low5 := low4.trans (bW.mono (Nat.le_trans (unhide HLOW).size k4.size))
      have hb5 : M ≤ W4.heap.size := Nat.le_trans hb4 bW.size
      obtain ⟨hi0, hz0, hz1, hz2⟩ := unhide HI0
      have HW4 := hide hW4
      have R5 := hide row5
      have NW := hide nw
      have LA5 := hide la5
      have LB5 := hide lb5
      have LO5 := hide low5
      clear row4 lb4 hb4 low4 hW4 bW row5 nw la5 lb5 low5 l4 k4 LTa HROW HLB HLOW HBM HS
      go_wp2_with (at_builtin
                   rw [unhide HW4]
                   refine wpList_append_own _ rfl (.tmp 31) (.tmp 33) 41 rfl M 3 i0 (.int .i64 0) 1 8 Try.underlying41 hi0 hz0 hz1 hz2 rfl (by decide) _ _ _ rfl (unhide R5) ⟨w4.heap.size, 0, none⟩ 1 1 [.int .i64 (j : Int)] rfl rfl (unhide NW) (one_int _) (by unfold maxLen; omega) (by omega) hb5 ?_
                   intro v5 w5 own5 grow5 _
                   have OWN5 := hide own5
                   have GR5 := hide grow5
                   clear own5 grow5)
      have FIN : Hid (OneAt w.heap.size M w w5 v5 pa sa qa pb sb qb (k + 1)) := by
        have grow5 := unhide GR5
        have LTa := unhide LTA
        have LTb := unhide LTB
        have la5 := unhide LA5
        have lb5 := unhide LB5
        have far : ∀ b, b < M → some b ≠ u7.ownBlock := fun b hb e => by have := (own_tag (unhide R5) b e.symm).1; omega
        have kp : ∀ b, b < M → w5.heap[b]? = W4.heap[b]? := fun b hb => grow5.block b (by omega) (far b hb)
        refine ⟨by rw [upto_succ, show ((k + 1 : Nat) : Int) = (j : Int) by have := unhide HJ; omega]; exact unhide OWN5, ?_, lb5.kept (kp _ LTb.1) (kp _ LTb.2.1) (kp _ LTb.2.2), ?_, ?_⟩
        · have := la5.kept (kp _ LTa.1) (kp _ LTa.2.1) (kp _ LTa.2.2)
          rw [unhide HJ]; rw [unhide HJ] at this; exact this
        · exact Nat.le_trans hb5 grow5.size
        · exact (unhide LO5).grown grow5 (unhide LO5).size (fun b hb => Nat.le_trans (unhide HMW) (own_tag (unhide R5) b hb).1)
      clear OWN5 GR5 LA5 LB5 LO5 R5 NW HI0 hi0 hz0 hz1 hz2
      go_wp2
      go_roundg (40 - (k + 1))
      case measure => have := unhide HG; omega
      case rel => exact ⟨k + 1, by omega, by go_num, unhide FIN⟩
    · have hk : k = 40 := by omega
      subst hk
      have hkI : ¬ ((40 : Nat) : Int) < 40 := by omega
      obtain ⟨g, capn, rfl, hg, hc40, hcm, hns⟩ := ns_of hrow
      obtain ⟨W, hW⟩ : ∃ W, wr.alloc (.cells Z 42) = W := ⟨_, rfl⟩
      have bW : Below wr.heap.size wr W := by rw [← hW]; exact (Below.refl _ wr).alloc (Nat.le_refl _) _
      have xW : W.heap[wr.heap.size]? = some (.cells Z 42 (0, 0)) := by rw [← hW]; exact heap_alloc_new _ _
      have hgl := hns.lt
      have S2 : Hid (TwoAt w.heap.size w W wr.heap.size g pb sb qb 0) := ⟨fun _ => Hd.none, Z, fun _ => false, 0, xW, unhide ZB, hlb.below bW, ofL_none 4 41 (by decide), hns.kept (bW.block g hgl), hlow.trans (bW.mono hlow.size)⟩
      obtain ⟨A, hA⟩ : ∃ A, wr.heap.size = A := ⟨_, rfl⟩
      rw [hA] at S2 hbm hgl
      have LTb := unhide LTB
      have AP : Hid (¬ foot pb sb qb A ∧ ¬ foot pb sb qb g ∧ g ≠ A ∧ w.heap.size ≤ A) := ⟨fun h => by rcases h with h | h | h <;> omega, fun h => by rcases h with h | h | h <;> omega, by omega, Nat.le_trans (unhide HMW) hbm⟩
      have HA := hide hA
      have HW := hide hW
      have zz := unhide ZZ
      clear hrow hla hlb hbm hlow hgk hk40 hlt bW xW hgl hns hg hA hW LTb S0 ZB LTA LTB DJ HMW PA ZZ
      go_upto_region 12 with fail
      rw [unhide HW, unhide HA]
      clear HW HA zz
      go_loopg [12] 80 (fun gg iv wr => ∃ k : Nat, k + gg = 80 ∧ k ≤ n ∧ iv = .int .i64 (k : Int) ∧ TwoAt w.heap.size w wr A g pb sb qb k)
      case atStart => exact ⟨0, by omega, Nat.zero_le _, rfl, unhide S2⟩
      case round =>
        clear hkI
        obtain ⟨k, hgk, hkn, rfl, heard, cs, f, ref, hbox, hbs, hlk, hof, hns, hlow⟩ := hrel
        have hk80 : k ≤ 80 := by omega
        by_cases hlt : k < n ∧ k < 80
        · obtain ⟨y, hyk⟩ : ∃ y, ys[k]? = some y := ⟨_, List.getElem?_eq_getElem (by rw [unhide HY]; exact hlt.1)⟩
          obtain ⟨a, rfl, ca⟩ := ((unhide HI).sub hlow) k y hyk
          have hkI : (k : Int) < (n : Int) := by omega
          have hkJ : (k : Int) < 80 := by omega
          obtain ⟨j, hj⟩ : ∃ j : Nat, y % 40 = (j : Int) := ⟨(y % 40).toNat, by omega⟩
          have hj40 : j < 40 := by omega
          have hjI : (j : Int) < 40 := by omega
          have WJ := hide (fun w => show Calls Try.prog 9 #[.int .i64 y, .int .i64 40] w fun ev w' => ev = .returned (.int .i64 (j : Int)) ∧ w' = w by rw [← hj]; exact within_any y 40 w (by decide) (by decide))
          have cn := hns.cell hj40
          obtain ⟨N, hN⟩ : ∃ N, j + 1 = N := ⟨_, rfl⟩
          rw [hN] at cn
          have hN1 : 1 ≤ N := by omega
          have hN41 : N < 41 := by omega
          have hNI : (N : Int) < 41 := by omega
          have cA : wr.cell? ⟨A, N, none⟩ = some (.bool (f N)) := bcell hbox (hbs.2 N hN41)
          have HG := hide hgk
          have HB := hide hbox
          have HBS := hide hbs
          have HLW := hide hlow
          have HNS := hide hns
          have HOF := hide hof
          have HLT := hide hlt
          clear hj hyk hN hgk S2
          cases hf : f N with
          | true =>
            rw [hf] at cA
            have TK := hide (take_no (base := w.heap.size) 1 4 (N : Int) 7 wr.drew (wf_lit 1 (by omega)) (wf_lit 4 (by omega)) (wf_nat (by omega)) (by omega) (unhide PB) hlow.size (hlk.below (Below.refl _ wr).drew) (hof.known (by decide) hN1 hN41 hf) (by decide))
            have HF := hide hf
            clear hbox hbs hlow hns hof hlk hf hlt
            go_wp2_with fail
            refine (unhide WJ _).mono ?_
            rintro e w4 ⟨rfl, rfl⟩
            go_upto_region 15 with fail
            go_region_with (first
              | (go_at_call 13
                 refine (unhide TK).mono ?_
                 rintro e w5 ⟨rfl, l4, k4⟩
                 have x5 : w5.heap[A]? = some (.cells cs 42 (0, 0)) := (k4.2 A (blk_lt' (unhide HB)) (unhide AP).1).trans (unhide HB)
                 have c5 : w5.cell? ⟨A, N, none⟩ = some (.bool true) := by rw [← unhide HF]; exact bcell x5 ((unhide HBS).2 N hN41)
                 have L4 := hide l4
                 have K4 := hide k4
                 have X5 := hide x5
                 clear l4 k4 x5))
            all_goals (
              have l4 := unhide L4
              have k4 := unhide K4
              have x5 := unhide X5
              have f5 : w5.frozen? ⟨A, N, none⟩ = false := free_of_block x5
              obtain ⟨W6, hW6⟩ : ∃ W6, w5.setCell ⟨A, N, none⟩ (.bool true) = W6 := ⟨_, rfl⟩
              have k6 : ∀ b, b ≠ A → W6.heap[b]? = w5.heap[b]? := fun b hb => by rw [← hW6]; exact Below.heap_setCell w5 ⟨A, N, none⟩ _ b hb
              have x6 : W6.heap[A]? = some (.cells (cs.setIfInBounds N (.bool true)) 42 (0, 0)) := by rw [← hW6, setCell_block x5]
              have nA : ∀ b, foot pb sb qb b → b ≠ A := fun b hb e => (unhide AP).1 (e ▸ hb)
              have FIN : Hid (TwoAt w.heap.size w W6 A g pb sb qb (k + 1)) := by
                have l6 := l4.kept (k6 pb (nA _ (Or.inl rfl))) (k6 sb (nA _ (Or.inr (Or.inl rfl)))) (k6 qb (nA _ (Or.inr (Or.inr rfl))))
                refine ⟨_, _, _, _, x6, (unhide HBS).set N hN41, l6, ?_, (unhide HNS).kept ((k6 g (unhide AP).2.2.1).trans (k4.2 g (unhide HNS).lt (unhide AP).2.1)), ?_⟩
                · obtain ⟨S, z1, z2, z3⟩ := unhide HOF
                  refine ⟨S, z1, fun i hi => ?_, z3⟩
                  rw [z2 i hi]
                  show f i = (f i || decide (i = N))
                  by_cases e : i = N
                  · rw [e, unhide HF]; rfl
                  · rw [decide_eq_false e, Bool.or_false]
                · rw [← hW6]; exact ((unhide HLW).drew.trans k4.1).setCell (p := ⟨A, N, none⟩) (unhide AP).2.2.2 _
              have HW6 := hide hW6
              clear l4 k4 x5 hW6 k6 x6 nA L4 K4 X5
              go_wp2
              rw [unhide HW6]
              go_roundg (80 - (k + 1))
              case measure => have := unhide HG; omega
              case rel => exact ⟨k + 1, by omega, (unhide HLT).1, by go_num, unhide FIN⟩)
          | false =>
            rw [hf] at cA
            obtain ⟨te, tof⟩ := hof.free (by decide) (by decide) hN1 hN41 hf
            have TK := hide (take_yes (base := w.heap.size) 1 4 (N : Int) wr.drew (wf_lit 1 (by omega)) (wf_lit 4 (by omega)) (wf_nat (by omega)) (by omega) (unhide PB) hlow.size (hlk.below (Below.refl _ wr).drew) te)
            have HF := hide hf
            have TOF := hide tof
            clear hbox hbs hlow hns hof hlk hf te tof hlt
            go_wp2_with fail
            refine (unhide WJ _).mono ?_
            rintro e w4 ⟨rfl, rfl⟩
            go_upto_region 15 with fail
            go_region_with (first
              | (go_at_call 13
                 refine (unhide TK).mono ?_
                 rintro e w5 ⟨rfl, l4, k4⟩
                 have x5 : w5.heap[A]? = some (.cells cs 42 (0, 0)) := (k4.2 A (blk_lt' (unhide HB)) (unhide AP).1).trans (unhide HB)
                 have c5 : w5.cell? ⟨A, N, none⟩ = some (.bool false) := by rw [← unhide HF]; exact bcell x5 ((unhide HBS).2 N hN41)
                 have L4 := hide l4
                 have K4 := hide k4
                 have X5 := hide x5
                 clear l4 k4 x5))
            all_goals (
              have l4 := unhide L4
              have k4 := unhide K4
              have x5 := unhide X5
              rw [Int.toNat_natCast, show (4 : Int).toNat = 4 from rfl] at l4
              have f5 : w5.frozen? ⟨A, N, none⟩ = false := free_of_block x5
              obtain ⟨W6, hW6⟩ : ∃ W6, w5.setCell ⟨A, N, none⟩ (.bool true) = W6 := ⟨_, rfl⟩
              have k6 : ∀ b, b ≠ A → W6.heap[b]? = w5.heap[b]? := fun b hb => by rw [← hW6]; exact Below.heap_setCell w5 ⟨A, N, none⟩ _ b hb
              have x6 : W6.heap[A]? = some (.cells (cs.setIfInBounds N (.bool true)) 42 (0, 0)) := by rw [← hW6, setCell_block x5]
              have nA : ∀ b, foot pb sb qb b → b ≠ A := fun b hb e => (unhide AP).1 (e ▸ hb)
              have FIN : Hid (TwoAt w.heap.size w W6 A g pb sb qb (k + 1)) := by
                have l6 := l4.kept (k6 pb (nA _ (Or.inl rfl))) (k6 sb (nA _ (Or.inr (Or.inl rfl)))) (k6 qb (nA _ (Or.inr (Or.inr rfl))))
                refine ⟨_, _, _, _, x6, (unhide HBS).set N hN41, l6, ?_, (unhide HNS).kept ((k6 g (unhide AP).2.2.1).trans (k4.2 g (unhide HNS).lt (unhide AP).2.1)), ?_⟩
                · rw [upH_same]; exact unhide TOF
                · rw [← hW6]; exact ((unhide HLW).drew.trans k4.1).setCell (p := ⟨A, N, none⟩) (unhide AP).2.2.2 _
              have HW6 := hide hW6
              clear l4 k4 x5 hW6 k6 x6 nA L4 K4 X5
              go_wp2
              rw [unhide HW6]
              go_roundg (80 - (k + 1))
              case measure => have := unhide HG; omega
              case rel => exact ⟨k + 1, by omega, (unhide HLT).1, by go_num, unhide FIN⟩)
        · by_cases hkn' : k < n
          · have hkI : (k : Int) < (n : Int) := by omega
            have hkJ : ¬ (k : Int) < 80 := by omega
            clear hlt
            have NC := hide (new_at 1 5 wr)
            have sr := hlow.size
            have HLK := hide hlk
            have HOF := hide hof
            have HNS := hide hns
            have HLW := hide hlow
            clear hbox hbs hlk hof hns hlow hgk S2
            go_wp2_with fail
            refine (unhide NC).mono ?_
            rintro e w4 ⟨⟨pc, sc, qc, rfl, l4, hp, hs, hq⟩, b4⟩
            have ST := stamp_any (base := w.heap.size) 2 w4 (wf_lit 2 (by omega)) (by decide) ⟨Nat.le_trans sr hp, Nat.le_trans sr hs, Nat.le_trans sr hq⟩ (Nat.le_trans sr b4.size) l4
            rw [show ((0 + 1 : Nat) : Int) = 1 from rfl] at ST
            have lb4 := (unhide HLK).below b4
            have ns4 := (unhide HNS).kept (b4.block g (unhide HNS).lt)
            have low4 := (unhide HLW).trans (b4.mono sr)
            have ltb := (unhide HLK).lt
            have gl := (unhide HNS).lt
            have FB : Hid (∀ b, b < wr.heap.size → ¬ foot pc sc qc b) := fun b hb h => by rcases h with h | h | h <;> omega
            have LT : Hid (pb < wr.heap.size ∧ sb < wr.heap.size ∧ qb < wr.heap.size ∧ g < wr.heap.size) := ⟨ltb.1, ltb.2.1, ltb.2.2, gl⟩
            have HST := hide ST
            have LB4 := hide lb4
            have NS4 := hide ns4
            have LO4 := hide low4
            clear l4 hp hs hq b4 ST lb4 ns4 low4 ltb gl HLK HNS HLW NC
            go_wp2_with fail
            refine (unhide HST).mono ?_
            rintro e w5 ⟨rfl, l5, k5⟩
            have fb := unhide FB
            obtain ⟨t1, t2, t3, t4⟩ := unhide LT
            have lb5 := (unhide LB4).other k5 (fb _ t1) (fb _ t2) (fb _ t3)
            have ns5 := (unhide NS4).kept (k5.2 g (unhide NS4).lt (fb _ t4))
            have low5 := (unhide LO4).trans k5.1
            have hl4 := (unhide HOF).life
            have hl5 : (heard 1).life < 5 := by omega
            have TK := take_yes (base := w.heap.size) 1 5 1 w5 (wf_lit 1 (by omega)) (wf_lit 5 (by omega)) (wf_lit 1 (by omega)) (by omega) (unhide PB) low5.size lb5 (takeE_newer _ (by decide) (by omega))
            rw [show (5 : Int).toNat = 5 from rfl, show (1 : Int).toNat = 1 from rfl] at TK
            obtain ⟨G, hG⟩ : ∃ G, (heard 1).taking 5 1 = G := ⟨_, rfl⟩
            have GS : Hid (G.life = 5 ∧ Sees G (fun m => decide (m = 1))) := by rw [← hG]; exact ⟨by rw [taking_life, if_pos hl5], sees_newer hl5 1⟩
            rw [hG] at TK
            have HTK := hide TK
            have NS5 := hide ns5
            have LO5 := hide low5
            clear l5 k5 fb t1 t2 t3 t4 lb5 ns5 low5 hl4 hl5 TK hG HST LB4 NS4 LO4 FB LT HOF
            go_wp2_with fail
            refine (unhide HTK).mono ?_
            rintro e w6 ⟨rfl, l6, k6⟩
            have LF := life_any 1 w6 (wf_lit 1 (by omega)) l6
            rw [upH_same, (unhide GS).1, show ((5 : Nat) : Int) = 5 from rfl] at LF
            have HLF := hide LF
            have S3 : Hid (ThreeAt w.heap.size w w6 g pb sb qb (k + 1)) := ⟨_, _, l6, by rw [upH_same]; exact (unhide GS).1, by rw [upH_same]; exact (unhide GS).2, (unhide NS5).kept (k6.2 g (unhide NS5).lt (unhide AP).2.1), (unhide LO5).trans k6.1⟩
            clear l6 k6 LF NS5 LO5 HTK GS
            go_wp2_with fail
            refine (unhide HLF).mono ?_
            rintro e w7 ⟨rfl, rfl⟩
            clear HLF
            go_upto_region 23 with fail
            go_loopg [17] 40 (fun gg iv wr => ∃ i : Nat, i + gg = 40 ∧ iv = .int .i64 (i : Int) ∧ ThreeAt w.heap.size w wr g pb sb qb (k + 1 + i))
            case atStart => exact ⟨0, by omega, rfl, unhide S3⟩
            case round =>
              obtain ⟨i, hgi, rfl, hd3, ref3, hl3, hli3, hse3, hns3, hlo3⟩ := hrel
              have hi40 : i ≤ 40 := by omega
              by_cases hil : i < 40
              · have hiI : (i : Int) < 40 := by omega
                obtain ⟨N, hN⟩ : ∃ N, i + 1 = N := ⟨_, rfl⟩
                have cn := hns3.cell hil
                rw [hN] at cn
                have TK := hide (take_no (base := w.heap.size) 1 4 (N : Int) 19 wr (wf_lit 1 (by omega)) (wf_lit 4 (by omega)) (wf_nat (by omega)) (by omega) (unhide PB) hlo3.size hl3 (takeE_stale _ (by decide) (by omega) (by rw [hli3]; decide)) (by decide))
                have F3 := hide (And.intro hli3 (And.intro hse3 (And.intro hns3 hlo3)))
                have HG := hide hgi
                clear hl3 hli3 hse3 hns3 hlo3 hN hgi S3
                go_wp2_with fail
                refine (unhide TK).mono ?_
                rintro e w8 ⟨rfl, l8, k8⟩
                obtain ⟨z1, z2, z3, z4⟩ := unhide F3
                have FIN : Hid (ThreeAt w.heap.size w w8 g pb sb qb (k + 1 + (i + 1))) := ⟨_, _, l8, z1, z2, z3.kept (k8.2 g z3.lt (unhide AP).2.1), z4.trans k8.1⟩
                clear l8 k8 z1 z2 z3 z4 TK F3
                go_wp2
                go_roundg (40 - (i + 1))
                case measure => have := unhide HG; omega
                case rel => exact ⟨i + 1, by omega, by go_num, unhide FIN⟩
              · have hiI : ¬ (i : Int) < 40 := by omega
                have LO := hide hlo3
                cases again with
                | false =>
                  clear hl3 hli3 hse3 hns3 hlo3 hgi S3
                  go_wp2
                  go_ret
                  exact ⟨rfl, unhide LO⟩
                | true =>
                  have TK := hide (take_no (base := w.heap.size) 1 5 1 7 wr (wf_lit 1 (by omega)) (wf_lit 5 (by omega)) (wf_lit 1 (by omega)) (by omega) (unhide PB) hlo3.size hl3 (takeE_known (n := 1) hse3 (by decide) (by decide) (by rw [hli3]; rfl) (Or.inr (by decide))) (by decide))
                  clear hl3 hli3 hse3 hns3 hlo3 hgi S3
                  go_wp2_with fail
                  refine (unhide TK).mono ?_
                  rintro e w8 ⟨rfl, l8, k8⟩
                  have L8 := hide ((unhide LO).trans k8.1)
                  clear l8 k8 TK
                  go_wp2
                  go_ret
                  exact ⟨rfl, unhide L8⟩
          · have hkI : ¬ (k : Int) < (n : Int) := by omega
            clear hlt
            have NC := hide (new_at 1 5 wr)
            have sr := hlow.size
            have HLK := hide hlk
            have HOF := hide hof
            have HNS := hide hns
            have HLW := hide hlow
            clear hbox hbs hlk hof hns hlow hgk S2
            go_wp2_with fail
            refine (unhide NC).mono ?_
            rintro e w4 ⟨⟨pc, sc, qc, rfl, l4, hp, hs, hq⟩, b4⟩
            have ST := stamp_any (base := w.heap.size) 2 w4 (wf_lit 2 (by omega)) (by decide) ⟨Nat.le_trans sr hp, Nat.le_trans sr hs, Nat.le_trans sr hq⟩ (Nat.le_trans sr b4.size) l4
            rw [show ((0 + 1 : Nat) : Int) = 1 from rfl] at ST
            have lb4 := (unhide HLK).below b4
            have ns4 := (unhide HNS).kept (b4.block g (unhide HNS).lt)
            have low4 := (unhide HLW).trans (b4.mono sr)
            have ltb := (unhide HLK).lt
            have gl := (unhide HNS).lt
            have FB : Hid (∀ b, b < wr.heap.size → ¬ foot pc sc qc b) := fun b hb h => by rcases h with h | h | h <;> omega
            have LT : Hid (pb < wr.heap.size ∧ sb < wr.heap.size ∧ qb < wr.heap.size ∧ g < wr.heap.size) := ⟨ltb.1, ltb.2.1, ltb.2.2, gl⟩
            have HST := hide ST
            have LB4 := hide lb4
            have NS4 := hide ns4
            have LO4 := hide low4
            clear l4 hp hs hq b4 ST lb4 ns4 low4 ltb gl HLK HNS HLW NC
            go_wp2_with fail
            refine (unhide HST).mono ?_
            rintro e w5 ⟨rfl, l5, k5⟩
            have fb := unhide FB
            obtain ⟨t1, t2, t3, t4⟩ := unhide LT
            have lb5 := (unhide LB4).other k5 (fb _ t1) (fb _ t2) (fb _ t3)
            have ns5 := (unhide NS4).kept (k5.2 g (unhide NS4).lt (fb _ t4))
            have low5 := (unhide LO4).trans k5.1
            have hl4 := (unhide HOF).life
            have hl5 : (heard 1).life < 5 := by omega
            have TK := take_yes (base := w.heap.size) 1 5 1 w5 (wf_lit 1 (by omega)) (wf_lit 5 (by omega)) (wf_lit 1 (by omega)) (by omega) (unhide PB) low5.size lb5 (takeE_newer _ (by decide) (by omega))
            rw [show (5 : Int).toNat = 5 from rfl, show (1 : Int).toNat = 1 from rfl] at TK
            obtain ⟨G, hG⟩ : ∃ G, (heard 1).taking 5 1 = G := ⟨_, rfl⟩
            have GS : Hid (G.life = 5 ∧ Sees G (fun m => decide (m = 1))) := by rw [← hG]; exact ⟨by rw [taking_life, if_pos hl5], sees_newer hl5 1⟩
            rw [hG] at TK
            have HTK := hide TK
            have NS5 := hide ns5
            have LO5 := hide low5
            clear l5 k5 fb t1 t2 t3 t4 lb5 ns5 low5 hl4 hl5 TK hG HST LB4 NS4 LO4 FB LT HOF
            go_wp2_with fail
            refine (unhide HTK).mono ?_
            rintro e w6 ⟨rfl, l6, k6⟩
            have LF := life_any 1 w6 (wf_lit 1 (by omega)) l6
            rw [upH_same, (unhide GS).1, show ((5 : Nat) : Int) = 5 from rfl] at LF
            have HLF := hide LF
            have S3 : Hid (ThreeAt w.heap.size w w6 g pb sb qb (k + 1)) := ⟨_, _, l6, by rw [upH_same]; exact (unhide GS).1, by rw [upH_same]; exact (unhide GS).2, (unhide NS5).kept (k6.2 g (unhide NS5).lt (unhide AP).2.1), (unhide LO5).trans k6.1⟩
            clear l6 k6 LF NS5 LO5 HTK GS
            go_wp2_with fail
            refine (unhide HLF).mono ?_
            rintro e w7 ⟨rfl, rfl⟩
            clear HLF
            go_upto_region 23 with fail
            go_loopg [17] 40 (fun gg iv wr => ∃ i : Nat, i + gg = 40 ∧ iv = .int .i64 (i : Int) ∧ ThreeAt w.heap.size w wr g pb sb qb (k + 1 + i))
            case atStart => exact ⟨0, by omega, rfl, unhide S3⟩
            case round =>
              obtain ⟨i, hgi, rfl, hd3, ref3, hl3, hli3, hse3, hns3, hlo3⟩ := hrel
              have hi40 : i ≤ 40 := by omega
              by_cases hil : i < 40
              · have hiI : (i : Int) < 40 := by omega
                obtain ⟨N, hN⟩ : ∃ N, i + 1 = N := ⟨_, rfl⟩
                have cn := hns3.cell hil
                rw [hN] at cn
                have TK := hide (take_no (base := w.heap.size) 1 4 (N : Int) 19 wr (wf_lit 1 (by omega)) (wf_lit 4 (by omega)) (wf_nat (by omega)) (by omega) (unhide PB) hlo3.size hl3 (takeE_stale _ (by decide) (by omega) (by rw [hli3]; decide)) (by decide))
                have F3 := hide (And.intro hli3 (And.intro hse3 (And.intro hns3 hlo3)))
                have HG := hide hgi
                clear hl3 hli3 hse3 hns3 hlo3 hN hgi S3
                go_wp2_with fail
                refine (unhide TK).mono ?_
                rintro e w8 ⟨rfl, l8, k8⟩
                obtain ⟨z1, z2, z3, z4⟩ := unhide F3
                have FIN : Hid (ThreeAt w.heap.size w w8 g pb sb qb (k + 1 + (i + 1))) := ⟨_, _, l8, z1, z2, z3.kept (k8.2 g z3.lt (unhide AP).2.1), z4.trans k8.1⟩
                clear l8 k8 z1 z2 z3 z4 TK F3
                go_wp2
                go_roundg (40 - (i + 1))
                case measure => have := unhide HG; omega
                case rel => exact ⟨i + 1, by omega, by go_num, unhide FIN⟩
              · have hiI : ¬ (i : Int) < 40 := by omega
                have LO := hide hlo3
                cases again with
                | false =>
                  clear hl3 hli3 hse3 hns3 hlo3 hgi S3
                  go_wp2
                  go_ret
                  exact ⟨rfl, unhide LO⟩
                | true =>
                  have TK := hide (take_no (base := w.heap.size) 1 5 1 7 wr (wf_lit 1 (by omega)) (wf_lit 5 (by omega)) (wf_lit 1 (by omega)) (by omega) (unhide PB) hlo3.size hl3 (takeE_known (n := 1) hse3 (by decide) (by decide) (by rw [hli3]; rfl) (Or.inr (by decide))) (by decide))
                  clear hl3 hli3 hse3 hns3 hlo3 hgi S3
                  go_wp2_with fail
                  refine (unhide TK).mono ?_
                  rintro e w8 ⟨rfl, l8, k8⟩
                  have L8 := hide ((unhide LO).trans k8.1)
                  clear l8 k8 TK
                  go_wp2
                  go_ret
                  exact ⟨rfl, unhide L8⟩
end Go.Proofs.Ytkanolmcaoecgaa
