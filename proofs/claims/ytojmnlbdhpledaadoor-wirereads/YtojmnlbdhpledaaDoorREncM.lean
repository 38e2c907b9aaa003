/- synodalref2.EncodeMsg: a contract. -/
import Derived.Test.YtojmnlbdhpledaaDoorMsgA
import Derived.Test.YtojmnlbdhpledaaDoorSameF
import Derived.Test.YtojmnlbdhpledaaDoorCutsH
import Derived.Test.YtojmnlbdhpledaaDoorSame
import Derived.Deep.RegionHeld3
import Derived.Deep.DrawnRows
import Derived.Deep.DeepCutAuto
import Derived.Deep.CutBlock
namespace Go.Proofs.YtojmnlbdhpledaaDoor
open Go.RowKit
attribute [local go_sem ↓] Go.wp_at_zero Go.wp_at_succ

theorem getD_at {es : List En} {i : Nat} (h : i < es.length) : es[i]? = some (es.getD i default) := by
  rw [List.getD_eq_getElem?_getD, List.getElem?_eq_getElem h]; rfl

set_option maxRecDepth 100000 in
set_option maxHeartbeats 4000000 in
theorem rencM_any (x : Mg) (aot aoe aoo aon : Option Addr) (nt ct ne ce no co nn cn : Nat) (hnt : x.terms.length = nt) (hne : x.es.length = ne) (hno : x.old.length = no) (hnn : x.new.length = nn) (l1 : nt ≤ maxLen) (l2 : ne ≤ maxLen) (l3 : no ≤ maxLen) (l4 : nn ≤ maxLen) (w : World) (ht : IntsR w aot x.terms) (he : EntsAt w aoe x.es) (ho : IntsR w aoo x.old) (hw : IntsR w aon x.new) :
    Calls Tryd.prog 17 #[.agg #[.int .i64 x.src, .int .i64 x.to, .int .i64 x.gen, .int .i64 x.kind, .int .i64 x.term, .int .i64 x.index, .int .i64 x.last, .int .i64 x.commit, .bool x.yes, .slice aot nt ct, .slice aoe ne ce, .slice aoo no co, .slice aon nn cn]] w fun e w' =>
      ∃ v, e = .returned (.tuple #[v, .int .i64 (((x.put ([], 0)).2 : Nat) : Int)]) ∧ Own w.heap.size w' v (told (x.put ([], 0))) ∧ Below w.heap.size w w' := by
  have PO := hide (fun h : x.ok => put_ok h [])
  obtain ⟨P, hP⟩ : ∃ P, x.put ([], 0) = P := ⟨_, rfl⟩
  have TN : Hid (P.2 ≠ 0 → told P = []) := fun h => by unfold told; rw [if_neg h]
  obtain ⟨kd, hkd⟩ : ∃ kd, x.kind = kd := ⟨_, rfl⟩
  obtain ⟨yv, hyv⟩ : ∃ yv, x.yes = yv := ⟨_, rfl⟩
  obtain ⟨W, hW⟩ : ∃ W, w.alloc (.cells #[.int .i64 x.src, .int .i64 x.to, .int .i64 x.gen, .int .i64 kd, .int .i64 x.term, .int .i64 x.index, .int .i64 x.last, .int .i64 x.commit, .bool yv, .slice aot nt ct, .slice aoe ne ce, .slice aoo no co, .slice aon nn cn] 41) = W := ⟨_, rfl⟩
  have bW : Below w.heap.size w W := by rw [← hW]; exact (Below.refl _ w).alloc (Nat.le_refl _) _
  have x0 : W.heap[w.heap.size]? = some (.cells #[.int .i64 x.src, .int .i64 x.to, .int .i64 x.gen, .int .i64 kd, .int .i64 x.term, .int .i64 x.index, .int .i64 x.last, .int .i64 x.commit, .bool yv, .slice aot nt ct, .slice aoe ne ce, .slice aoo no co, .slice aon nn cn] 41 (0, 0)) := by rw [← hW]; exact heap_alloc_new _ _
  have sW : w.heap.size < W.heap.size := blk_lt' x0
  obtain ⟨B, hB⟩ : ∃ B, w.heap.size = B := ⟨_, rfl⟩
  have SB := hide (fun (Y : World) (hY : Below W.heap.size W Y) => mbox_cells ((hY.block _ sW).trans x0))
  rw [hB] at SB
  have IT := hide (fun (Y : World) (hY : Below W.heap.size W Y) => (ht.below bW).below hY)
  have IO := hide (fun (Y : World) (hY : Below W.heap.size W Y) => (ho.below bW).below hY)
  have IN := hide (fun (Y : World) (hY : Below W.heap.size W Y) => (hw.below bW).below hY)
  have IE := hide (fun (Y : World) (hY : Below W.heap.size W Y) => (he.below bW).below hY)
  -- lists lie below W
  have LT : Hid (∀ i, i < x.terms.length → ∃ a, aot = some a ∧ a.block < W.heap.size) := fun i hi => by
    obtain ⟨a, e, c⟩ := ht i hi
    have := blk_lt c
    rw [add_block] at this
    exact ⟨a, e, by omega⟩
  have LE : Hid (∀ i, i < x.es.length → ∀ (j : Nat) (r : Option Addr) (cx : Nat) (blk off : Nat), aoe = some ⟨blk, off, none⟩ → w.cell? ⟨blk, off + i * 6 + 4, none⟩ = some (.slice r (x.es.getD i default).ms.length cx) → j < (x.es.getD i default).ms.length → ∃ a, r = some a ∧ a.block < W.heap.size) := fun i hi j r cx blk off e1 e2 hj => by
    obtain ⟨blk', off', r', cx', f1, _, _, _, _, f4, _, fm, _⟩ := he i hi
    rw [e1] at f1
    cases f1
    rw [e2] at f4
    cases f4
    obtain ⟨a, e, c⟩ := fm j hj
    have := blk_lt c
    rw [add_block] at this
    exact ⟨a, e, by omega⟩
  rw [hP] at PO ⊢
  obtain ⟨E, hE⟩ : ∃ E, P.2 = E := ⟨_, rfl⟩
  have TL2 : Hid (Told x) := told_msg x
  have HE : Hid ((x.put ([], 0)).2 = E) := by rw [hP]; exact hE
  rw [hE] at TN
  rw [hE]
  obtain ⟨T, hT⟩ : ∃ T, told P = T := ⟨_, rfl⟩
  rw [hT] at TN
  rw [hT, hkd, hyv]
  have l1' : nt ≤ 9223372036854775807 := l1
  have l2' : ne ≤ 9223372036854775807 := l2
  have HW := hide hW
  have BW := hide bW
  have HB := hide hB
  have HKD := hide hkd
  have HYV := hide hyv
  have HNT := hide hnt
  have HNE := hide hne
  have HNO := hide hno
  have HNN := hide hnn
  have HT := hide hT
  have HP := hide hP
  obtain ⟨a0, a1, a2, a3, a4, a5, a6, a7, a8, a9, a10, a11, a12⟩ := unhide SB W (Below.refl _ _)
  clear hW bW x0 ht he ho hw hE hT hP hkd hyv hnt hne hno hnn sW hB
  by_cases hk : 1 ≤ kd ∧ kd ≤ 15
  · by_cases hm : nt ≤ 64 ∧ ne ≤ 64
    · obtain ⟨kk, rfl⟩ : ∃ kk : Nat, kd = (kk : Int) := ⟨kd.toNat, by omega⟩
      obtain ⟨hk1, hk2⟩ := hk
      obtain ⟨hm1, hm2⟩ := hm
      have kk1 : 1 ≤ kk ∧ kk ≤ 15 := by omega
      obtain ⟨A1, hA1⟩ : ∃ A1, num8 x.src ++ num8 x.to ++ num8 x.gen = A1 := ⟨_, rfl⟩
      obtain ⟨A2, hA2⟩ : ∃ A2, A1 ++ [kk] ++ num8 x.term ++ num8 x.index ++ num8 x.last ++ num8 x.commit = A2 := ⟨_, rfl⟩
      obtain ⟨A3, hA3⟩ : ∃ A3, A2 ++ [(bitOf x.yes).toNat] = A3 := ⟨_, rfl⟩
      obtain ⟨A4, hA4⟩ : ∃ A4, A3 ++ [nt] ++ nums x.terms ++ [ne] = A4 := ⟨_, rfl⟩
      have n1 : A1.length = 24 := by rw [← hA1]; simp [num8_len]
      have n2 : A2.length = 57 := by rw [← hA2]; simp [num8_len, n1]
      have n3 : A3.length = 58 := by rw [← hA3]; simp [n2]
      have n4 : A4.length ≤ 600 := by rw [← hA4]; simp [n3, nums_len, unhide HNT]; omega
      have HA1 := hide hA1
      have HA2 := hide hA2
      have HA3 := hide hA3
      have HA4 := hide hA4
      have sz : w.heap.size ≤ W.heap.size := (unhide BW).size
      clear hA1 hA2 hA3 hA4
      go_enter Tryd.func17, Tryd.ntmps17
      go_upto_region 5 with (rw [unhide HW, unhide HB])
      clear a0 a1 a2 a3 a4 a5 a6 a7 a8 a9 a10 a11 a12
      go_cut [4] (fun v4 wc => Own W.heap.size wc v4 A1 ∧ Below W.heap.size W wc)
      case first =>
        have OZ := hide (Own.nil W.heap.size W.drew)
        have EZ := hide ((Below.refl W.heap.size W).drew)
        have SX := hide (fun (Y : World) (hY : Below W.heap.size W Y) => (And.intro (unhide SB Y hY).1 (And.intro (unhide SB Y hY).2.1 (unhide SB Y hY).2.2.1)))
        go_region_held3 (fun Y => Y.cell? ⟨B, 0, none⟩ = some (.int .i64 x.src) ∧ Y.cell? ⟨B, 1, none⟩ = some (.int .i64 x.to) ∧ Y.cell? ⟨B, 2, none⟩ = some (.int .i64 x.gen)) (first | with_reducible exact unhide SX _ (unhide EZ) | fail)
          (first
            | (go_at_call 40
               refine (rnumK W.heap.size _ _ _ _ (unhide OZ) (by simp [num8_len]; try omega) (unhide EZ).size).mono ?_
               rintro e z ⟨v', rfl, o', k'⟩
               have ON := hide o'
               have EN := hide ((unhide EZ).trans k'.below)
               clear OZ EZ o' k'
               have OZ := ON
               have EZ := EN
               clear ON EN)
            | fail)
        all_goals go_wp2_with fail
        all_goals go_meet
        all_goals exact ⟨by rw [← unhide HA1]; simpa using unhide OZ, unhide EZ⟩
      case rest =>
        obtain ⟨o1, e1⟩ := hcut
        obtain ⟨y1, hy1⟩ : ∃ y1, y1 = wc := ⟨_, rfl⟩
        subst hy1
        have O1 := hide o1
        have E1 := hide e1
        have a3 := (unhide SB _ e1).2.2.2.1
        have s1 := e1.size
        clear o1 e1
        go_wp2_with (refine wpList_byte rfl (.tmp 35) (.tmp 39) rfl W.heap.size u4 A1 rfl (unhide O1) kk (by omega) (kk : Int) rfl rfl (by omega) s1 ?_)
        intro v2 y2 o2 k2
        have O2 := hide o2
        have E2 := hide ((unhide E1).trans k2.below)
        clear o2 k2 a3 O1 s1
        go_upto_region 7 with fail
        go_cut [4] (fun v4 wc => Own W.heap.size wc v4 A2 ∧ Below W.heap.size W wc)
        case first =>
          have OZ := hide ((unhide O2).below ((Below.refl _ y2).drew))
          have EZ := hide ((unhide E2).drew)
          have SX := hide (fun (Y : World) (hY : Below W.heap.size W Y) => (And.intro (unhide SB Y hY).2.2.2.2.1 (And.intro (unhide SB Y hY).2.2.2.2.2.1 (And.intro (unhide SB Y hY).2.2.2.2.2.2.1 (unhide SB Y hY).2.2.2.2.2.2.2.1))))
          go_region_held3 (fun Y => Y.cell? ⟨B, 4, none⟩ = some (.int .i64 x.term) ∧ Y.cell? ⟨B, 5, none⟩ = some (.int .i64 x.index) ∧ Y.cell? ⟨B, 6, none⟩ = some (.int .i64 x.last) ∧ Y.cell? ⟨B, 7, none⟩ = some (.int .i64 x.commit)) (first | with_reducible exact unhide SX _ (unhide EZ) | fail)
            (first
              | (go_at_call 40
                 refine (rnumK W.heap.size _ _ _ _ (unhide OZ) (by simp [num8_len, n1]) (unhide EZ).size).mono ?_
                 rintro e z ⟨v', rfl, o', k'⟩
                 have ON := hide o'
                 have EN := hide ((unhide EZ).trans k'.below)
                 clear OZ EZ o' k'
                 have OZ := ON
                 have EZ := EN
                 clear ON EN)
              | fail)
          all_goals go_wp2_with fail
          all_goals go_meet
          all_goals exact ⟨by rw [← unhide HA2]; exact unhide OZ, unhide EZ⟩
        case rest =>
          obtain ⟨o3, e3⟩ := hcut
          obtain ⟨y3, hy3⟩ : ∃ y3, y3 = wc := ⟨_, rfl⟩
          subst hy3
          have a8 := (unhide SB _ e3).2.2.2.2.2.2.2.2.1
          have s3 := e3.size
          have O3 := hide o3
          have E3 := hide e3
          clear o3 e3 O2 E2 E1
          go_upto_if 55 with fail
          go_cut [4] (fun v4 wc => Own W.heap.size wc v4 A3 ∧ Below W.heap.size W wc)
          case first =>
            have HA3' := hide (unhide HA3)
            cases yv
            · have hb : (bitOf x.yes).toNat = 0 := by rw [unhide HYV]; rfl
              go_wp2_with (refine wpList_byte rfl (.tmp 59) (.tmp 60) rfl W.heap.size u4 A2 rfl (unhide O3) 0 (by omega) 0 rfl rfl (by omega) s3 ?_)
              intro v4 y4 o4 k4
              have O4 : Hid (Own W.heap.size y4 v4 A3) := by rw [← unhide HA3, hb]; exact o4
              have E4 := hide ((unhide E3).trans k4.below)
              clear o4 k4
              go_wp2_with fail
              go_meet
              exact ⟨unhide O4, unhide E4⟩
            · have hb : (bitOf x.yes).toNat = 1 := by rw [unhide HYV]; rfl
              go_wp2_with (refine wpList_byte rfl (.tmp 56) (.tmp 57) rfl W.heap.size u4 A2 rfl (unhide O3) 1 (by omega) 1 rfl rfl (by omega) s3 ?_)
              intro v4 y4 o4 k4
              have O4 : Hid (Own W.heap.size y4 v4 A3) := by rw [← unhide HA3, hb]; exact o4
              have E4 := hide ((unhide E3).trans k4.below)
              clear o4 k4
              go_wp2_with fail
              go_meet
              exact ⟨unhide O4, unhide E4⟩
          case rest =>
            obtain ⟨o5, e5⟩ := hcut
            obtain ⟨y5, hy5⟩ : ∃ y5, y5 = wc := ⟨_, rfl⟩
            subst hy5
            have O5 := hide o5
            have E5 := hide e5
            have s5 := e5.size
            clear o5 e5 O3 E3 a8 s3
            go_upto_region 11 with fail
            go_cut [4] (fun v4 wc => Own W.heap.size wc v4 A4 ∧ Below W.heap.size W wc)
            case first =>
              have SX := hide (fun (Y : World) (hY : Below W.heap.size W Y) => (And.intro (unhide SB Y hY).2.2.2.2.2.2.2.2.2.1 (unhide SB Y hY).2.2.2.2.2.2.2.2.2.2.1))
              have EZ := hide ((unhide E5).drew)
              have HZ3 : Hid (IntKind.u8.wrap (ne : Int) = (ne : Int)) := by show _ = _; rw [IntKind.wrap_u8]; omega
              have EY : Hid (Below W.heap.size W (y5.alloc (.cells #[.int .u8 (IntKind.u8.wrap (ne : Int))] 5)).drew) := ((unhide E5).alloc s5 _).drew
              have OY0 := hide ((unhide O5).below ((Below.refl _ y5).drew))
              have OY1 : Hid (Own W.heap.size (y5.alloc (.cells #[.int .u8 (IntKind.u8.wrap (ne : Int))] 5)).drew u4 A3) := (unhide O5).below (((Below.refl _ y5).alloc (Nat.le_refl _) _).drew)
              have OB : Hid (∀ k, (u4 : Value).ownBlock = some k → W.heap.size ≤ k ∧ k < y5.heap.size) := fun k hk => (unhide O5).1.lt k hk
              have HY : Hid (∀ Y, Below W.heap.size W Y → ∀ i, i < x.terms.length → ∃ a, aot = some a ∧ Y.cell? (a.add i) = some (.int .i64 (x.terms.getD i 0)) ∧ (u4 : Value).ownBlock ≠ some a.block) := fun Y hY i hi => by
                obtain ⟨a, e, c⟩ := unhide IT Y hY i hi
                refine ⟨a, e, c, fun h => ?_⟩
                obtain ⟨a', e', h'⟩ := unhide LT i hi
                rw [e] at e'
                cases e'
                have := (unhide OB _ h).1
                omega
              go_region_held3 (fun Y => Y.cell? ⟨B, 9, none⟩ = some (.slice aot nt ct) ∧ Y.cell? ⟨B, 10, none⟩ = some (.slice aoe ne ce)) (first | with_reducible exact unhide SX _ (unhide EZ) | with_reducible exact unhide SX _ (unhide EY) | with_reducible exact unhide SX _ ((unhide EZ).alloc (unhide EZ).size _) | fail)
                (first
                  | (go_at_call 41
                     first
                       | (refine (rlistK W.heap.size u4 A3 aot nt ct x.terms (unhide HNT) (by omega) y5.drew (unhide OY0) (unhide HY _ (unhide EZ)) (by omega) (unhide EZ).size).mono ?_
                          rintro e z ⟨v', rfl, o', k'⟩
                          have EN := hide ((unhide EZ).trans k'.below)
                          have KC := hide True.intro
                          have OZ := hide o'
                          clear EZ o' k'
                          have EZ := EN
                          clear EN)
                       | (refine (rlistK W.heap.size u4 A3 aot nt ct x.terms (unhide HNT) (by omega) (y5.alloc (.cells #[.int .u8 (IntKind.u8.wrap (ne : Int))] 5)).drew (unhide OY1) (unhide HY _ (unhide EY)) (by omega) (unhide EY).size).mono ?_
                          rintro e z ⟨v', rfl, o', k'⟩
                          have EN := hide ((unhide EY).trans k'.below)
                          have KC : Hid (z.cell? ⟨y5.heap.size, 0, none⟩ = some (.int .u8 (IntKind.u8.wrap (ne : Int)))) := by
                            have hc := new_cell y5 (.int .u8 (IntKind.u8.wrap (ne : Int))) 5
                            exact (World.cell?_of_block (w := (y5.alloc (.cells #[.int .u8 (IntKind.u8.wrap (ne : Int))] 5)).drew) (a := ⟨y5.heap.size, 0, none⟩) (k'.block (k := y5.heap.size) (by show y5.heap.size < (y5.alloc _).heap.size; simp) (fun h => by have := (unhide OB _ h).2; omega))).trans hc
                          have OZ := hide o'
                          clear EZ o' k'
                          have EZ := EN
                          clear EN)
                       | fail)
                  | (with_reducible refine step_app (.tmp 65) (.tmp 70) (by with_unfolding_all rfl) (by with_unfolding_all rfl) ?_
                     first
                       | (with_reducible refine wp_byte (.tmp 65) (.tmp 70) (by with_unfolding_all rfl) W.heap.size v' (A3 ++ [nt] ++ nums x.terms) (by with_unfolding_all rfl) ((unhide OZ).below ((Below.refl _ z).alloc (Nat.le_refl _) _)) z.heap.size ne (by omega) (IntKind.u8.wrap (ne : Int)) (unhide HZ3) (by with_unfolding_all rfl) (new_cell z (.int .u8 (IntKind.u8.wrap (ne : Int))) 5) (by simp [n3, nums_len, unhide HNT]; omega) ((unhide EZ).alloc (unhide EZ).size _).size ?_
                          intro v6 y6 o6 k6
                          have EN := hide (((unhide EZ).alloc (unhide EZ).size (.cells #[.int .u8 (IntKind.u8.wrap (ne : Int))] 5)).trans k6.below)
                          have O6 := hide o6
                          clear EZ o6 k6
                          have EZ := EN
                          clear EN)
                       | (with_reducible refine wp_byte (.tmp 65) (.tmp 70) (by with_unfolding_all rfl) W.heap.size v' (A3 ++ [nt] ++ nums x.terms) (by with_unfolding_all rfl) (unhide OZ) y5.heap.size ne (by omega) (IntKind.u8.wrap (ne : Int)) (unhide HZ3) (by with_unfolding_all rfl) (unhide KC) (by simp [n3, nums_len, unhide HNT]; omega) (unhide EZ).size ?_
                          intro v6 y6 o6 k6
                          have EN := hide ((unhide EZ).trans k6.below)
                          have O6 := hide o6
                          clear EZ o6 k6
                          have EZ := EN
                          clear EN)
                       | fail)
                  | fail)
              all_goals go_wp2_with fail
              all_goals go_meet
              all_goals exact ⟨by rw [← unhide HA4]; exact unhide O6, unhide EZ⟩
            case rest =>
              obtain ⟨o7, e7⟩ := hcut
              obtain ⟨y7, hy7⟩ : ∃ y7, y7 = wc := ⟨_, rfl⟩
              subst hy7
              have O7 := hide o7
              have E7 := hide e7
              clear o7 e7 O5 E5 s5
              go_wp2_with fail
              go_loopw [5, 4] (fun iv v4 wr => ∃ (i : Nat) (bs : List Nat), i ≤ ne ∧ iv = .int .i64 (i : Int) ∧ Own W.heap.size wr v4 bs ∧ bs = A4 ++ ((x.es.take i).map En.bytes).flatten ∧ bs.length ≤ 600 + i * 100000 ∧ Below W.heap.size W wr ∧ ∀ (j : Nat) (f : En), j < i → x.es[j]? = some f → wrongE f.kind f.text.size f.ms.length f.to = 0) (fun iv _ _ => ne - (intOf iv).toNat)
              case atStart => exact ⟨0, A4, Nat.zero_le _, rfl, unhide O7, by simp, by omega, unhide E7, fun j f hj => by omega⟩
              case round =>
                clear O7 E7
                obtain ⟨i, bs, hi, rfl, oi, hbs, lbs, ei, hall⟩ := hrel
                have OI := hide oi
                have EI := hide ei
                have HBS := hide hbs
                have HALL := hide hall
                have a10 := (unhide SB _ ei).2.2.2.2.2.2.2.2.2.2.1
                have si := ei.size
                clear oi ei hbs hall
                by_cases hlt : i < ne
                · have hix : i < x.es.length := by rw [unhide HNE]; exact hlt
                  have qi : (i : Int) < (ne : Int) := by omega
                  obtain ⟨e, he⟩ : ∃ e, x.es.getD i default = e := ⟨_, rfl⟩
                  have hei : x.es[i]? = some e := by rw [← he]; exact getD_at hix
                  have hen := unhide IE wr (unhide EI) i hix
                  rw [he] at hen
                  obtain ⟨blk, off, r, cx, rfl, c0, c1, c2, c3, c4, c5, hms, htx, hmx, hcx, -⟩ := hen
                  have RW := hide (fun Y => rwrong_any e.kind e.client e.seq e.to e.text htx r e.ms.length cx (Nat.le_trans hmx hcx) Y)
                  have HMS := hide hms
                  have LEI : Hid (∀ j, j < e.ms.length → ∃ a, r = some a ∧ a.block < W.heap.size) := fun j hj => by
                    obtain ⟨a, ea, ca⟩ := hms j hj
                    have hin := unhide IE W (Below.refl _ _) i hix
                    rw [he] at hin
                    obtain ⟨blk', off', r', cx', f1, _, _, _, _, f4, _, fm, _⟩ := hin
                    cases f1
                    have f4' := ((unhide EI).cell (blk_lt f4)).trans f4
                    rw [c4] at f4'
                    cases f4'
                    obtain ⟨a', ea', ca'⟩ := fm j hj
                    have := blk_lt ca'
                    rw [add_block] at this
                    exact ⟨a', ea', this⟩
                  obtain ⟨q, hq⟩ : ∃ q, wrongE e.kind e.text.size e.ms.length e.to = q := ⟨_, rfl⟩
                  rw [hq] at RW
                  have HQ := hide hq
                  have HEI := hide hei
                  obtain ⟨ml, hml⟩ : ∃ ml, e.ms.length = ml := ⟨_, rfl⟩
                  rw [hml] at RW c4
                  have HML := hide hml
                  clear hq hei hms he htx hmx hcx hml
                  by_cases hq0 : q = 0
                  · subst hq0
                    obtain ⟨z1, z2, z3, z4, z5, z6⟩ := wrongE_zero (unhide HQ)
                    obtain ⟨kq, hkq⟩ : ∃ kq : Nat, e.kind = (kq : Int) := ⟨e.kind.toNat, by omega⟩
                    obtain ⟨tq, htq⟩ : ∃ tq : Nat, e.to = (tq : Int) := ⟨e.to.toNat, by omega⟩
                    have hee : (⟨(kq : Int), e.client, e.seq, e.text, e.ms, (tq : Int)⟩ : En) = e := by rw [← hkq, ← htq]
                    have RE := hide (fun (Y : World) (hY : Below wr.heap.size wr Y) => rentry_any W.heap.size u4 bs kq tq (by omega) (by omega) e.client e.seq e.text z3 r ml cx e.ms (unhide HML) (by rw [← unhide HML]; exact z4) Y ((unhide OI).below hY) (fun j hj => by
                      obtain ⟨a, ea, ca⟩ := unhide HMS j hj
                      obtain ⟨a', ea', la⟩ := unhide LEI j hj
                      rw [ea] at ea'
                      cases ea'
                      exact ⟨a, ea, by rw [hY.cell (blk_lt ca)]; exact ca, la⟩) (by omega) (Nat.le_trans si hY.size))
                    rw [hee] at RE
                    rw [hkq] at c0 RW
                    rw [htq] at c5 RW
                    have eb : e.bytes.length ≤ 100000 := (EntBytes.len ⟨e, wrongE_ok (unhide HQ), rfl⟩).2
                    have hnx : (bs ++ e.bytes) = A4 ++ ((x.es.take (i + 1)).map En.bytes).flatten := by
                      rw [unhide HBS, List.take_add_one, unhide HEI]; simp
                    have hln : (bs ++ e.bytes).length ≤ 600 + (i + 1) * 100000 := by rw [List.length_append]; omega
                    have HNX := hide (And.intro hnx hln)
                    have HA2' := hide (fun (j : Nat) (f : En) (hj : j < i + 1) (hf : x.es[j]? = some f) => show wrongE f.kind f.text.size f.ms.length f.to = 0 from by
                      by_cases hji : j < i
                      · exact unhide HALL j f hji hf
                      · obtain rfl : j = i := by omega
                        rw [unhide HEI] at hf
                        cases hf
                        exact unhide HQ)
                    clear hee hnx hln eb hkq htq z1 z2 z3 z4 z5 z6
                    go_wp2_with fail
                    refine (unhide RW wr).mono ?_
                    rintro er y8 ⟨rfl, b8⟩
                    have d10 := (b8.cell (blk_lt a10)).trans a10
                    have d0 := (b8.cell (blk_lt c0)).trans c0
                    have d1 := (b8.cell (blk_lt c1)).trans c1
                    have d2 := (b8.cell (blk_lt c2)).trans c2
                    have d3 := (b8.cell (blk_lt c3)).trans c3
                    have d4 := (b8.cell (blk_lt c4)).trans c4
                    have d5 := (b8.cell (blk_lt c5)).trans c5
                    have RE8 := hide (unhide RE y8 b8)
                    have E8 := hide ((unhide EI).trans (b8.mono si))
                    clear b8 a10 c0 c1 c2 c3 c4 c5 RE RW
                    go_wp2_with fail
                    refine (unhide RE8).mono ?_
                    rintro er y9 ⟨v9, rfl, o9, k9⟩
                    have FIN := hide (And.intro o9 (And.intro (unhide HNX).1 (And.intro (unhide HNX).2 (And.intro ((unhide E8).trans k9.1) (unhide HA2')))))
                    clear o9 k9 RE8 d0 d1 d2 d3 d4 d5 d10
                    go_wp2
                    go_roundw
                    case rel => exact ⟨i + 1, _, by omega, by go_num, unhide FIN⟩
                    case measure => simp [intOf]; omega
                  · obtain rfl : q = E := by
                      rw [← unhide HE, (unhide TL2).each (by rw [unhide HKD]; exact hk1) (by rw [unhide HKD]; exact hk2) (by rw [unhide HNT]; exact hm1) (by rw [unhide HNE]; exact hm2) i e (unhide HEI) (unhide HALL) (by rw [unhide HQ]; exact hq0)]
                      exact (unhide HQ).symm
                    obtain rfl : [] = T := (unhide TN hq0).symm
                    have qn : ((q : Int) != 0) = true := by rw [bne_iff_ne]; omega
                    clear TN HE TL2 PO HT hq0
                    go_wp2_with fail
                    refine (unhide RW wr).mono ?_
                    rintro er y8 ⟨rfl, b8⟩
                    have d10 := (b8.cell (blk_lt a10)).trans a10
                    have d0 := (b8.cell (blk_lt c0)).trans c0
                    have d1 := (b8.cell (blk_lt c1)).trans c1
                    have d2 := (b8.cell (blk_lt c2)).trans c2
                    have d3 := (b8.cell (blk_lt c3)).trans c3
                    have d4 := (b8.cell (blk_lt c4)).trans c4
                    have d5 := (b8.cell (blk_lt c5)).trans c5
                    have E8 := hide ((unhide EI).trans (b8.mono si))
                    clear b8 a10 c0 c1 c2 c3 c4 c5
                    go_wp2_with fail
                    refine (unhide RW y8).mono ?_
                    rintro er y9 ⟨rfl, b9⟩
                    have B9 := hide ((unhide BW).trans (((unhide E8).trans (b9.mono (unhide E8).size)).mono sz))
                    clear b9
                    go_wp2
                    go_ret2
                    exact ⟨_, rfl, Own.nil _ _, unhide B9⟩
                · obtain rfl : i = ne := by omega
                  have RC := hide (rencC_any aoo aon no nn co cn l3 l4 x.old x.new (unhide HNO) (unhide HNN) wr (unhide IO wr (unhide EI)) (unhide IN wr (unhide EI)))
                  obtain ⟨-, -, -, -, -, -, -, -, -, -, -, a11, a12⟩ := unhide SB _ (unhide EI)
                  have qi : ¬ (i : Int) < (i : Int) := by omega
                  have hallw : ∀ (j : Nat) (f : En), x.es[j]? = some f → wrongE f.kind f.text.size f.ms.length f.to = 0 := fun j f hf => unhide HALL j f (by rw [← unhide HNE]; exact (List.getElem?_eq_some_iff.1 hf).1) hf
                  by_cases hcf : no ≤ 9 ∧ nn ≤ 9
                  · have hok : x.ok := (unhide TL2).fine (by rw [unhide HKD]; exact hk1) (by rw [unhide HKD]; exact hk2) (by rw [unhide HNT]; exact hm1) (by rw [unhide HNE]; exact hm2) hallw (by rw [unhide HNO]; exact hcf.1) (by rw [unhide HNN]; exact hcf.2)
                    have hcp := putConfig_ok hok.old hok.new []
                    have hPp := unhide PO hok
                    obtain rfl : 0 = E := by rw [← unhide HE, unhide HP, hPp]
                    have hTT : T = bs ++ confBytes x.old x.new := by
                      rw [← unhide HT, hPp, unhide HBS, List.take_of_length_le (by rw [unhide HNE]; exact Nat.le_refl _)]
                      unfold told
                      rw [if_pos rfl, ← unhide HA4, ← unhide HA3, ← unhide HA2, ← unhide HA1]
                      simp only [Mg.bytes, entsBytes, unhide HKD, unhide HNT, unhide HNE, List.nil_append, List.append_assoc, List.append_nil, Int.toNat_natCast]
                    rw [hcp] at RC
                    have ht0 : told (([] : List Nat) ++ confBytes x.old x.new, 0) = confBytes x.old x.new := by unfold told; rw [if_pos rfl, List.nil_append]
                    rw [ht0] at RC
                    have lcb : (confBytes x.old x.new).length ≤ 1000 := by
                      unfold confBytes
                      simp [nums_len, unhide HNO, unhide HNN]; omega
                    obtain ⟨CBS, hCBS⟩ : ∃ CBS, confBytes x.old x.new = CBS := ⟨_, rfl⟩
                    rw [hCBS] at RC lcb hTT
                    have HTT := hide hTT
                    clear hcp hPp ht0 hCBS hTT hok hallw TL2 PO HT HP HE TN hcf
                    go_wp2_with fail
                    refine (unhide RC).mono ?_
                    rintro er y8 ⟨vc, rfl, oc, b8⟩
                    obtain ⟨ac, cc, rfl, -, -, hby, hnc, -⟩ := oc.slice
                    have O8 := hide ((unhide OI).below b8)
                    have E8 := hide ((unhide EI).trans (b8.mono si))
                    have HBY := hide hby
                    have hlb : bs.length ≤ 10000000 := by omega
                    have s8 : W.heap.size ≤ y8.heap.size := (unhide E8).size
                    clear oc b8 RC a10 a11 a12
                    go_wp2_with (at_builtin; refine wpList_append_bytes rfl (.tmp 108) (.tmp 109) rfl W.heap.size u4 bs bs.length rfl rfl (unhide O8) ac CBS.length cc CBS rfl rfl (unhide HBY) hnc (by omega) s8 ?_)
                    intro a9 c9 y9 o9 b9 k9
                    have O9 : Hid (Own w.heap.size y9 (.slice a9 (bs.length + CBS.length) c9) T) := by rw [unhide HTT]; exact o9.rebase sz
                    have B9 := hide ((unhide BW).trans (((unhide E8).trans b9).mono sz))
                    clear o9 b9 k9
                    go_wp2
                    go_ret2
                    exact ⟨_, rfl, unhide O9, unhide B9⟩
                  · obtain rfl : 4 = E := by rw [← unhide HE]; exact ((unhide TL2).conf (by rw [unhide HKD]; exact hk1) (by rw [unhide HKD]; exact hk2) (by rw [unhide HNT]; exact hm1) (by rw [unhide HNE]; exact hm2) hallw (by rw [unhide HNO, unhide HNN]; omega)).symm
                    obtain rfl : [] = T := (unhide TN (by decide)).symm
                    rw [conf_many (xs := x.old) (ys := x.new) (by rw [unhide HNO, unhide HNN]; omega)] at RC
                    clear TL2 PO HT HP HE TN hallw hcf
                    go_wp2_with fail
                    refine (unhide RC).mono ?_
                    rintro er y8 ⟨vc, rfl, oc, b8⟩
                    have B8 := hide ((unhide BW).trans (((unhide EI).trans (b8.mono si)).mono sz))
                    clear oc b8
                    go_wp2
                    go_ret2
                    exact ⟨_, rfl, Own.nil _ _, unhide B8⟩
    · obtain rfl : 4 = E := by rw [← unhide HE]; exact ((unhide TL2).many (by rw [unhide HKD]; exact hk.1) (by rw [unhide HKD]; exact hk.2) (by rw [unhide HNT, unhide HNE]; omega)).symm
      obtain rfl : [] = T := (unhide TN (by decide)).symm
      obtain ⟨hk1, hk2⟩ := hk
      clear TL2 HE TN PO
      by_cases h1 : 64 < nt
      · go_enter Tryd.func17, Tryd.ntmps17
        go_wp2_with (rw [unhide HW, unhide HB])
        go_ret2
        exact ⟨_, rfl, Own.nil _ _, unhide BW⟩
      · have h2 : 64 < ne := by omega
        clear hm
        go_enter Tryd.func17, Tryd.ntmps17
        go_wp2_with (rw [unhide HW, unhide HB])
        go_ret2
        exact ⟨_, rfl, Own.nil _ _, unhide BW⟩
  · obtain rfl : 3 = E := by rw [← unhide HE]; exact ((unhide TL2).kind (by rw [unhide HKD]; omega)).symm
    obtain rfl : [] = T := (unhide TN (by decide)).symm
    clear TL2 HE TN PO
    by_cases h1 : kd < 1
    · go_enter Tryd.func17, Tryd.ntmps17
      go_wp2_with (rw [unhide HW, unhide HB])
      go_ret2
      exact ⟨_, rfl, Own.nil _ _, unhide BW⟩
    · have h2 : 15 < kd := by omega
      clear hk
      go_enter Tryd.func17, Tryd.ntmps17
      go_wp2_with (rw [unhide HW, unhide HB])
      go_ret2
      exact ⟨_, rfl, Own.nil _ _, unhide BW⟩
end Go.Proofs.YtojmnlbdhpledaaDoor
