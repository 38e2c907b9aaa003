/- synodalref2: get, Split: contracts. -/
import Derived.Test.YtnknmdpifjgfhaaDoorRFrame
import Derived.BigQuiet
import Derived.Deep.QuietTactic
namespace Go.Proofs.YtnknmdpifjgfhaaDoor
open Go.RowKit

theorem join4 {a b c d : Nat} (ha : a < 256) (hb : b < 256) (hc : c < 256) (_hd : d < 256) : joinTo 0 [a, b, c, d] = a * 16777216 + b * 65536 + c * 256 + d := by
  simp only [joinTo, List.foldl]; omega

set_option maxHeartbeats 1000000 in
theorem rget (a : Addr) (n cap : Nat) (bs : List Nat) (hn : bs.length = n) (h4 : 4 ≤ n) (w : World) (hb : Bytes w (some a) bs) :
    Calls Tryd.prog 69 #[.slice (some a) n cap] w fun e w' => e = .returned (.int .u32 ((joinTo 0 (bs.take 4) : Nat) : Int)) ∧ ∃ k, w' = w.drewN k := by
  have cells : ∀ i, i < 4 → w.cell? (a.add i) = some (.int .u8 ((bs.getD i 0 : Nat) : Int)) := by
    intro i hi
    obtain ⟨a', ea, hc⟩ := hb.2 i (by omega)
    obtain rfl := Option.some.inj ea
    exact hc
  have c0 : w.cell? a = some (.int .u8 ((bs.getD 0 0 : Nat) : Int)) := by have := cells 0 (by omega); rwa [Addr.add_zero'] at this
  have c1 : w.cell? ⟨a.block, a.off + 1, none⟩ = some (.int .u8 ((bs.getD 1 0 : Nat) : Int)) := cells 1 (by omega)
  have c2 : w.cell? ⟨a.block, a.off + 2, none⟩ = some (.int .u8 ((bs.getD 2 0 : Nat) : Int)) := cells 2 (by omega)
  have c3 : w.cell? ⟨a.block, a.off + 3, none⟩ = some (.int .u8 ((bs.getD 3 0 : Nat) : Int)) := cells 3 (by omega)
  have l0 := getD_lt hb.1 0
  have l1 := getD_lt hb.1 1
  have l2 := getD_lt hb.1 2
  have l3 := getD_lt hb.1 3
  have e4 : bs.take 4 = [bs.getD 0 0, bs.getD 1 0, bs.getD 2 0, bs.getD 3 0] := by
    rw [take_succ bs 0 3 (by omega), take_succ bs 0 2 (by omega), take_succ bs 0 1 (by omega), take_succ bs 0 0 (by omega)]; rfl
  have E4 := hide (show joinTo 0 (bs.take 4) = bs.getD 0 0 * 16777216 + bs.getD 1 0 * 65536 + bs.getD 2 0 * 256 + bs.getD 3 0 by rw [e4]; exact join4 l0 l1 l2 l3)
  clear e4 cells hb hn
  generalize bs.getD 0 0 = x0 at *
  generalize bs.getD 1 0 = x1 at *
  generalize bs.getD 2 0 = x2 at *
  generalize bs.getD 3 0 = x3 at *
  have q1 : (1 : Int) < n := by omega
  have q2 : (2 : Int) < n := by omega
  have q3 : (3 : Int) < n := by omega
  have q0 : 0 < n := by omega
  have o1 : Go.bits .or .u32 ((x0 : Int) * 16777216) ((x1 : Int) * 65536) = ((x0 * 16777216 + x1 * 65536 : Nat) : Int) := by
    have := u32_or_nat (x0 * 16777216) (x1 * 65536) (by omega) (by omega)
    rw [nat_join 24 _ _ (by omega) (by omega)] at this
    simpa using this
  have o2 : Go.bits .or .u32 ((x0 : Int) * 16777216 + (x1 : Int) * 65536) ((x2 : Int) * 256) = ((x0 * 16777216 + x1 * 65536 + x2 * 256 : Nat) : Int) := by
    have := u32_or_nat (x0 * 16777216 + x1 * 65536) (x2 * 256) (by omega) (by omega)
    rw [nat_join 16 _ _ (by omega) (by omega)] at this
    simpa using this
  have o3 : Go.bits .or .u32 ((x0 : Int) * 16777216 + (x1 : Int) * 65536 + (x2 : Int) * 256) (x3 : Int) = ((x0 * 16777216 + x1 * 65536 + x2 * 256 + x3 : Nat) : Int) := by
    have := u32_or_nat (x0 * 16777216 + x1 * 65536 + x2 * 256) x3 (by omega) (by omega)
    rw [nat_join 8 _ _ (by omega) (by omega)] at this
    simpa using this
  go_enter Tryd.func69, Tryd.ntmps69
  go_wp2_with fail
  go_quiet (fail)
  go_wp2
  go_ret
  exact ⟨ret_int (by rw [unhide E4]; simp), nq, rfl⟩

theorem join4_lt {bs : List Nat} (hb : ∀ x ∈ bs, x < 256) (h : 4 ≤ bs.length) : joinTo 0 (bs.take 4) < 4294967296 := by
  have e4 : bs.take 4 = [bs.getD 0 0, bs.getD 1 0, bs.getD 2 0, bs.getD 3 0] := by
    rw [take_succ bs 0 3 (by omega), take_succ bs 0 2 (by omega), take_succ bs 0 1 (by omega), take_succ bs 0 0 (by omega)]; rfl
  have l0 := getD_lt hb 0
  have l1 := getD_lt hb 1
  have l2 := getD_lt hb 2
  have l3 := getD_lt hb 3
  rw [e4, join4 l0 l1 l2 l3]; omega

set_option maxRecDepth 8000 in
set_option maxHeartbeats 4000000 in
theorem rsplit_any (ao : Option Addr) (cap : Nat) (bs : List Nat) (w : World) (hb : Bytes w ao bs) (h1 : bs.length ≤ cap) (h3 : bs.length ≤ 1000000000) :
    Calls Tryd.prog 35 #[.slice ao bs.length cap] w fun e w' => ∃ fv vs, e = .returned (.tuple #[fv, .int .i64 ((splitOf (bs.length + 1) bs).2.1 : Nat), .int .i64 ((splitOf (bs.length + 1) bs).2.2 : Nat)]) ∧
      w'.ownsRow w.heap.size 27 1 fv vs.length vs ∧ RowsOf w.heap.size w' vs (splitOf (bs.length + 1) bs).1 ∧ Below w.heap.size w w' := by
  obtain ⟨i0, hi, hz0, hz1, hz2⟩ := info_parts Tryd.info27
  obtain ⟨i5, gi, gz0, gz1, gz2⟩ := info_parts Tryd.info5
  have HB := hide hb
  clear hb
  go_enter Tryd.func35, Tryd.ntmps35
  go_wp2_with fail
  go_loopg [5, 6] bs.length (fun k fv av wr => ∃ (done : List (List Nat)) (vs : List Value) (at' : Nat), at' ≤ bs.length ∧ k = bs.length - at' ∧ av = .int .i64 at' ∧ vs.length ≤ at' ∧ wr.ownsRow w.heap.size 27 1 fv vs.length vs ∧ RowsOf w.heap.size wr vs done ∧ Below w.heap.size w wr ∧ Done bs done at')
  case atStart => exact ⟨[], [], 0, Nat.zero_le _, by simp, rfl, Nat.le_refl _, World.ownsRow_nil _ _ _ _, RowsOf.nil _ _, Below.refl _ _, Done.start bs⟩
  case round =>
    obtain ⟨done, vs, at', ha, hk, rfl, hvl, hown, hrows, hbel, hdone⟩ := hrel
    have HK := hide hk
    have HO := hide hown
    have HR := hide hrows
    have HBel := hide hbel
    have HD := hide hdone
    have hsz := hbel.size
    have hl : (bs.drop at').length = bs.length - at' := List.length_drop
    clear hk hown hrows hbel hdone
    by_cases c1 : bs.length < at' + 4
    · have hf : frameOf (bs.drop at') = (0, none) := by unfold frameOf; rw [if_pos (by omega)]
      have es := (unhide HD).stop hf
      have ES := hide es
      clear hf es
      go_wp2
      go_ret3
      refine ⟨u5, vs, ?_, unhide HO, ?_, unhide HBel⟩
      · rw [unhide ES]; rfl
      · rw [unhide ES]; exact unhide HR
    · obtain ⟨a, rfl⟩ : ∃ a, ao = some a := by
        cases ao with
        | none => have := (unhide HB).none_nil; subst this; simp at c1
        | some a => exact ⟨a, rfl⟩
      have hby : Bytes wr (some a) bs := (unhide HB).kept (fun a i u hc ea => by rw [(unhide HBel).cell (blk_lt hc)]; exact hc)
      have hd := hby.drop at'
      have hd4 := hby.drop (at' + 4)
      have hd8 := hby.drop (at' + 8)
      have hjl : joinTo 0 ((bs.drop at').take 4) < 4294967296 := join4_lt (fun x hx => (unhide HB).1 x (List.mem_of_mem_drop hx)) (by omega)
      have hfo : frameOf (bs.drop at') = frameOf (bs.drop at') := rfl
      unfold frameOf at hfo
      rw [if_neg (by omega)] at hfo
      simp only [] at hfo
      have HD0 := hide hd
      have HBY := hide hby
      have hne : ¬ cap = at' := by omega
      clear hd hby
      obtain ⟨m, hm⟩ : ∃ m, joinTo 0 ((bs.drop at').take 4) = m := ⟨_, rfl⟩
      rw [hm] at hjl
      have HM := hide hm
      clear hm
      go_wp2_with fail
      refine (rget (a.add at') _ _ (bs.drop at') hl (by omega) wr (unhide HD0)).mono ?_
      rintro e w1 ⟨rfl, q1, hw1⟩
      have hb1 : Below wr.heap.size wr w1 := hw1 ▸ drewN_below wr q1
      have B1 := hide hb1
      have s1 := hb1.size
      clear hw1 hb1
      rw [unhide HM]
      by_cases c2 : 65536 < m
      · have hf : frameOf (bs.drop at') = (5, none) := by unfold frameOf; rw [if_neg (by omega)]; simp only []; rw [unhide HM, if_pos c2]
        have ES := hide ((unhide HD).stop hf)
        clear hf
        go_wp2
        go_ret3
        refine ⟨u5, vs, ?_, own_below (unhide HO) (unhide B1), ?_, (unhide HBel).trans ((unhide B1).mono hsz)⟩
        · rw [unhide ES]; rfl
        · rw [unhide ES]; exact (unhide HR).kept fun v x ho => ho.below (unhide B1)
      by_cases c3 : bs.length < at' + 8 + m
      · have hf : frameOf (bs.drop at') = (0, none) := by unfold frameOf; rw [if_neg (by omega)]; simp only []; rw [unhide HM, if_neg c2, if_pos (by omega)]
        have ES := hide ((unhide HD).stop hf)
        clear hf
        go_wp2
        go_ret3
        refine ⟨u5, vs, ?_, own_below (unhide HO) (unhide B1), ?_, (unhide HBel).trans ((unhide B1).mono hsz)⟩
        · rw [unhide ES]; rfl
        · rw [unhide ES]; exact (unhide HR).kept fun v x ho => ho.below (unhide B1)
      obtain ⟨x, hx⟩ : ∃ x, ((bs.drop at').drop 8).take m = x := ⟨_, rfl⟩
      have lx : x.length = m := by rw [← hx, List.length_take, List.length_drop, hl]; omega
      have hxb : ∀ b ∈ x, b < 256 := by intro b hb; rw [← hx] at hb; exact (unhide HB).1 b (List.mem_of_mem_drop (List.mem_of_mem_drop (List.mem_of_mem_take hb)))
      have hcx := Sum.crc_lt hxb
      have hbx : Bytes wr (some (a.add (at' + 8))) x := by
        have h := hd8.take m
        rw [show bs.drop (at' + 8) = (bs.drop at').drop 8 by rw [List.drop_drop], hx] at h
        exact h
      have hb4 : Bytes wr (some ⟨a.block, a.off + (at' + 3 + 1), none⟩) (bs.drop (at' + 4)) := hd4
      have l4 : (bs.drop (at' + 4)).length = bs.length - (at' + 4) := List.length_drop
      have e4 : joinTo 0 ((bs.drop (at' + 4)).take 4) = joinTo 0 (((bs.drop at').drop 4).take 4) := by rw [List.drop_drop]
      have hown : (w1.alloc (.cells #[] 5)).ownsRow w1.heap.size 5 1 (.slice (some ⟨w1.heap.size, 0, none⟩) 0 0) 0 [] := World.ownsRow_lit w1 #[] 0 (Nat.le_refl _) (by decide) rfl
      have ba : Below wr.heap.size wr (w1.alloc (.cells #[] 5)) := (unhide B1).trans (((Below.refl _ w1).alloc (Nat.le_refl _) _).mono s1)
      have hnw := (hbx.below ba).news
      have HX := hide hx
      have HB4 := hide hb4
      have HE4 := hide e4
      have HL4 := hide l4
      have HXB := hide hxb
      clear hx hbx hb4 e4 l4 hd4 hd8 ba hxb
      have key : ∀ ad : Addr, (m = 0 ∨ ad = a.add (at' + 8)) → ∀ j u, (u8s x)[j]? = some u → (w1.alloc (.cells #[] 5)).cell? (ad.add j) = some u := by
        intro ad had j u hj
        rcases had with rfl | rfl
        · have : x = [] := List.eq_nil_of_length_eq_zero lx
          subst this; simp [u8s] at hj
        · exact hnw j u hj
      have tail : ∀ (v2 : Value) (w2 : World), w2.ownsRow w1.heap.size 5 1 v2 m (u8s x) → (w1.alloc (.cells #[] 5)).grownBy w2 (some w1.heap.size) → Own w1.heap.size w2 v2 x ∧ Below w1.heap.size w1 w2 := by
        intro v2 w2 ho hg
        refine ⟨⟨by rw [lx]; exact ho, unhide HXB⟩, ((Below.refl _ w1).alloc (Nat.le_refl _) _).grown hg (by simp) (fun k hk => by cases hk; exact Nat.le_refl _)⟩
      have KEY := hide key
      have TAIL := hide tail
      clear key tail hnw
      have h8 : cap = at' + 8 → m = 0 := by omega
      by_cases c8 : cap = at' + 8
      · have HM0 := hide (h8 c8)
        subst c8
        clear h8
        go_wp2_with (at_builtin; refine wpList_append_own _ rfl (.tmp 30) (.tmp 38) 27 rfl w1.heap.size 5 i5 (.int .u8 0) 1 1 Tryd.underlying27 gi gz0 gz1 gz2 rfl (by decide) _ _ _ rfl hown a _ _ (u8s x) rfl (by simp [u8s, lx]) (unhide KEY _ (Or.inl (unhide HM0))) (u8s_one x) (by unfold maxLen; omega) (by omega) (by simp) ?_)
        intro v2 w2 own2 g2 _
        have own2' : w2.ownsRow w1.heap.size 5 1 v2 m (u8s x) := by simpa using own2
        obtain ⟨o2, hb2⟩ := unhide TAIL v2 w2 own2' g2
        obtain ⟨aox, capx, rfl, _, _, byx, hnx, _⟩ := o2.slice
        have bw : Below wr.heap.size wr w2 := (unhide B1).trans (hb2.mono s1)
        have BX := hide byx
        have HNX := hide hnx
        have O2 := hide o2
        have BW := hide bw
        have HB42 := hide ((unhide HB4).below bw)
        have r5 : (at' : Int) + 4 ≤ bs.length := by omega
        have r6 : (0 : Int) ≤ (at' : Int) + 4 := by omega
        have hxm : x.length ≤ 65536 := by omega
        have LX := hide lx
        have HLL := hide hl
        clear own2 own2' g2 hown o2 hb2 byx hnx bw lx hl
        have hf1 : frameOf (bs.drop at') = if joinTo 0 ((bs.drop (at' + 4)).take 4) ≠ Sum.crc x then (11, none) else (0, some x) := by
          have lx := unhide LX
          have hl := unhide HLL
          unfold frameOf; rw [if_neg (by omega)]; simp only []; rw [unhide HM, if_neg c2, if_neg (by omega), unhide HX, ← unhide HE4]
        have HF1 := hide hf1
        clear hf1
        by_cases c4 : joinTo 0 ((bs.drop (at' + 4)).take 4) = Sum.crc x
        · have h7 : (((Sum.crc x : Nat) : Int) != ((joinTo 0 ((bs.drop (at' + 4)).take 4) : Nat) : Int)) = false := by rw [c4]; simp
          have C4 := hide c4
          clear c4
          go_wp2_with fail
          go_quiet (first | (go_at_call 37; exact Calls.quiet_of_same (rcrc_any aox x.length capx x rfl _ ((unhide BX).below (drewN_below w2 _)) (unhide HNX) (by omega))) | (go_at_call 69; exact Calls.quiet_of (rget ⟨a.block, a.off + (at' + 3 + 1), none⟩ (bs.length - (at' + 4)) _ (bs.drop (at' + 4)) (unhide HL4) (by omega) _ ((unhide HB42).below (drewN_below w2 _)))))
          have hb3 : Below w2.heap.size w2 (w2.drewN nq) := drewN_below w2 nq
          have hown3 := own_below (own_below (unhide HO) (unhide BW)) hb3
          have HR3 := hide (((unhide HR).kept fun v x ho => ho.below (unhide BW)).kept fun v x ho => ho.below hb3)
          have HO3 := hide ((unhide O2).below hb3)
          have hs2 : w.heap.size ≤ w2.heap.size := Nat.le_trans hsz (unhide BW).size
          have BA := hide ((unhide HBel).trans (((unhide BW).trans (hb3.mono (unhide BW).size)).mono hsz))
          clear hb3
          go_wp2_with (at_builtin; refine wpList_append_own _ rfl (.tmp 50) (.tmp 52) 52 rfl w.heap.size 27 i0 (.slice none 0 0) 1 24 Tryd.underlying52 hi hz0 hz1 hz2 rfl (by decide) _ _ _ rfl (hown3.alloc _) ⟨w2.heap.size, 0, none⟩ 1 1 _ rfl rfl news_at (one_slice _ _ _) (by unfold maxLen; omega) (by omega) (by simp; omega) ?_)
          intro v4 w4 hown4 hg4 _
          have hk4 : Only w.heap.size [27] (w2.drewN nq) w4 := ((Only.refl w.heap.size [27] (w2.drewN nq)).alloc hs2 _).own (hown3.alloc _) hg4 (by simp; omega) (Nat.le_refl _) (by simp)
          have hr4 := ((unhide HR3).snoc ((unhide HO3).rebase (Nat.le_trans hsz s1))).kept fun v x ho => ho.only hk4 (by simp)
          have HO4 := hide hown4
          have HR4 := hide hr4
          have HB4' := hide ((unhide BA).trans hk4.below)
          clear hown4 hr4 hk4 hg4 hown3
          go_wp2
          go_roundg (bs.length - (at' + (8 + m)))
          case measure => have := unhide HK; omega
          case rel =>
            have lx := unhide LX
            have hst := (unhide HD).step (e := 0) (x := x) (by rw [unhide HF1, if_neg (by simpa using unhide C4)]) (by omega)
            rw [lx] at hst
            exact ⟨done ++ [x], vs ++ [.slice aox x.length capx], at' + (8 + m), by omega, rfl, by simp; omega, by simp; omega, by have h := unhide HO4; simpa using h, unhide HR4, unhide HB4', hst⟩
        · have h7 : (((Sum.crc x : Nat) : Int) != ((joinTo 0 ((bs.drop (at' + 4)).take 4) : Nat) : Int)) = true := by rw [bne_iff_ne]; omega
          have ES := hide ((unhide HD).stop (e := 11) (by rw [unhide HF1, if_pos c4]))
          clear c4
          go_wp2_with fail
          go_quiet (first | (go_at_call 37; exact Calls.quiet_of_same (rcrc_any aox x.length capx x rfl _ ((unhide BX).below (drewN_below w2 _)) (unhide HNX) (by omega))) | (go_at_call 69; exact Calls.quiet_of (rget ⟨a.block, a.off + (at' + 3 + 1), none⟩ (bs.length - (at' + 4)) _ (bs.drop (at' + 4)) (unhide HL4) (by omega) _ ((unhide HB42).below (drewN_below w2 _)))))
          have hb3 : Below wr.heap.size wr (w2.drewN nq) := (unhide BW).trans ((drewN_below w2 nq).mono (unhide BW).size)
          have HB3 := hide hb3
          clear hb3
          go_wp2
          go_ret3
          refine ⟨u5, vs, ?_, own_below (unhide HO) (unhide HB3), ?_, (unhide HBel).trans ((unhide HB3).mono hsz)⟩
          · rw [unhide ES]; rfl
          · rw [unhide ES]; exact (unhide HR).kept fun v x ho => ho.below (unhide HB3)
      · go_wp2_with (at_builtin; refine wpList_append_own _ rfl (.tmp 30) (.tmp 38) 27 rfl w1.heap.size 5 i5 (.int .u8 0) 1 1 Tryd.underlying27 gi gz0 gz1 gz2 rfl (by decide) _ _ _ rfl hown (a.add (at' + 8)) _ _ (u8s x) rfl (by simp [u8s, lx]) (unhide KEY _ (Or.inr rfl)) (u8s_one x) (by unfold maxLen; omega) (by omega) (by simp) ?_)
        intro v2 w2 own2 g2 _
        have own2' : w2.ownsRow w1.heap.size 5 1 v2 m (u8s x) := by simpa using own2
        obtain ⟨o2, hb2⟩ := unhide TAIL v2 w2 own2' g2
        obtain ⟨aox, capx, rfl, _, _, byx, hnx, _⟩ := o2.slice
        have bw : Below wr.heap.size wr w2 := (unhide B1).trans (hb2.mono s1)
        have BX := hide byx
        have HNX := hide hnx
        have O2 := hide o2
        have BW := hide bw
        have HB42 := hide ((unhide HB4).below bw)
        have r4 : ¬ cap = at' + 4 := by omega
        have r5 : (at' : Int) + 4 ≤ bs.length := by omega
        have r6 : (0 : Int) ≤ (at' : Int) + 4 := by omega
        have hxm : x.length ≤ 65536 := by omega
        have LX := hide lx
        have HLL := hide hl
        have H8 := hide h8
        clear own2 own2' g2 hown o2 hb2 byx hnx bw lx hl h8
        have hf1 : frameOf (bs.drop at') = if joinTo 0 ((bs.drop (at' + 4)).take 4) ≠ Sum.crc x then (11, none) else (0, some x) := by
          have lx := unhide LX
          have hl := unhide HLL
          unfold frameOf; rw [if_neg (by omega)]; simp only []; rw [unhide HM, if_neg c2, if_neg (by omega), unhide HX, ← unhide HE4]
        have HF1 := hide hf1
        clear hf1
        by_cases c4 : joinTo 0 ((bs.drop (at' + 4)).take 4) = Sum.crc x
        · have h7 : (((Sum.crc x : Nat) : Int) != ((joinTo 0 ((bs.drop (at' + 4)).take 4) : Nat) : Int)) = false := by rw [c4]; simp
          have C4 := hide c4
          clear c4
          go_wp2_with fail
          go_quiet (first | (go_at_call 37; exact Calls.quiet_of_same (rcrc_any aox x.length capx x rfl _ ((unhide BX).below (drewN_below w2 _)) (unhide HNX) (by omega))) | (go_at_call 69; exact Calls.quiet_of (rget ⟨a.block, a.off + (at' + 3 + 1), none⟩ (bs.length - (at' + 4)) (cap - (at' + 4)) (bs.drop (at' + 4)) (unhide HL4) (by omega) _ ((unhide HB42).below (drewN_below w2 _)))))
          have hb3 : Below w2.heap.size w2 (w2.drewN nq) := drewN_below w2 nq
          have hown3 := own_below (own_below (unhide HO) (unhide BW)) hb3
          have HR3 := hide (((unhide HR).kept fun v x ho => ho.below (unhide BW)).kept fun v x ho => ho.below hb3)
          have HO3 := hide ((unhide O2).below hb3)
          have hs2 : w.heap.size ≤ w2.heap.size := Nat.le_trans hsz (unhide BW).size
          have BA := hide ((unhide HBel).trans (((unhide BW).trans (hb3.mono (unhide BW).size)).mono hsz))
          clear hb3
          go_wp2_with (at_builtin; refine wpList_append_own _ rfl (.tmp 50) (.tmp 52) 52 rfl w.heap.size 27 i0 (.slice none 0 0) 1 24 Tryd.underlying52 hi hz0 hz1 hz2 rfl (by decide) _ _ _ rfl (hown3.alloc _) ⟨w2.heap.size, 0, none⟩ 1 1 _ rfl rfl news_at (one_slice _ _ _) (by unfold maxLen; omega) (by omega) (by simp; omega) ?_)
          intro v4 w4 hown4 hg4 _
          have hk4 : Only w.heap.size [27] (w2.drewN nq) w4 := ((Only.refl w.heap.size [27] (w2.drewN nq)).alloc hs2 _).own (hown3.alloc _) hg4 (by simp; omega) (Nat.le_refl _) (by simp)
          have hr4 := ((unhide HR3).snoc ((unhide HO3).rebase (Nat.le_trans hsz s1))).kept fun v x ho => ho.only hk4 (by simp)
          have HO4 := hide hown4
          have HR4 := hide hr4
          have HB4' := hide ((unhide BA).trans hk4.below)
          clear hown4 hr4 hk4 hg4 hown3
          go_wp2
          go_roundg (bs.length - (at' + (8 + m)))
          case measure => have := unhide HK; omega
          case rel =>
            have lx := unhide LX
            have hst := (unhide HD).step (e := 0) (x := x) (by rw [unhide HF1, if_neg (by simpa using unhide C4)]) (by omega)
            rw [lx] at hst
            exact ⟨done ++ [x], vs ++ [.slice aox x.length capx], at' + (8 + m), by omega, rfl, by simp; omega, by simp; omega, by have h := unhide HO4; simpa using h, unhide HR4, unhide HB4', hst⟩
        · have h7 : (((Sum.crc x : Nat) : Int) != ((joinTo 0 ((bs.drop (at' + 4)).take 4) : Nat) : Int)) = true := by rw [bne_iff_ne]; omega
          have ES := hide ((unhide HD).stop (e := 11) (by rw [unhide HF1, if_pos c4]))
          clear c4
          go_wp2_with fail
          go_quiet (first | (go_at_call 37; exact Calls.quiet_of_same (rcrc_any aox x.length capx x rfl _ ((unhide BX).below (drewN_below w2 _)) (unhide HNX) (by omega))) | (go_at_call 69; exact Calls.quiet_of (rget ⟨a.block, a.off + (at' + 3 + 1), none⟩ (bs.length - (at' + 4)) (cap - (at' + 4)) (bs.drop (at' + 4)) (unhide HL4) (by omega) _ ((unhide HB42).below (drewN_below w2 _)))))
          have hb3 : Below wr.heap.size wr (w2.drewN nq) := (unhide BW).trans ((drewN_below w2 nq).mono (unhide BW).size)
          have HB3 := hide hb3
          clear hb3
          go_wp2
          go_ret3
          refine ⟨u5, vs, ?_, own_below (unhide HO) (unhide HB3), ?_, (unhide HBel).trans ((unhide HB3).mono hsz)⟩
          · rw [unhide ES]; rfl
          · rw [unhide ES]; exact (unhide HR).kept fun v x ho => ho.below (unhide HB3)
end Go.Proofs.YtnknmdpifjgfhaaDoor
