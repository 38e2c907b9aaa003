/- TallyVotes: the walk. -/
import Derived.Test.YtjcidihcmbenhaaYAgree
import Derived.Test.YtjcidihcmbenhaaYNew
import Derived.Test.YtjcidihcmbenhaaYArgs
namespace Go.Proofs.Ytjcidihcmbenhaa
open Go.RowKit Go.Maps

theorem vote_mem {vs : List (Int × Bool)} {k : Nat} (h : k < vs.length) : vs.getD k (0, false) ∈ vs := by
  rw [List.getD_eq_getElem?_getD, List.getElem?_eq_getElem h]; exact List.getElem_mem h
/-- the reference's votes, just made. -/
theorem Xv.made {w : World} {q : Nat} {ao an : Option Addr} {no nn co cn : Nat} {old new : List Int} (hq : w.heap[q]? = some (.cells #[.slice ao no co, .slice an nn cn, .slice none 0 0, .slice none 0 0] 41 (0, 0))) (h1 : old.length = no) (h2 : new.length = nn) (fo : Fr w ao old) (fn : Fr w an new) : Xv w.heap.size w q old new [] [] :=
  ⟨ao, no, co, an, nn, cn, _, _, hq, h1, h2, fo, fn, fo.lo (Nat.le_refl _), fn.lo (Nat.le_refl _), Two.nil _ _, heap_lt hq⟩

set_option maxRecDepth 20000 in
set_option maxHeartbeats 8000000 in
theorem votes_walk (old now : Int) (av : Option Addr) (n cv : Nat) (vs : List (Int × Bool)) (hn : vs.length = n) (hmax : n ≤ maxLen) (hwf : ∀ m ∈ vs, wf64 m.1) (w : World) (hV : VoR w av vs) :
    Calls Try.prog 4 #[.int .i64 old, .int .i64 now, .slice av n cv] w fun e w' => e = .returned (.bool true) ∧ Below w.heap.size w w' := by
  have hmm' : n ≤ 9223372036854775807 := hmax
  have KN := hide (known_any w)
  have HV := hide hV
  have EN := hide hn
  have WF := hide hwf
  clear hV hn hwf hmax
  go_enter Try.func4, Try.ntmps4
  go_wp2_with fail
  refine (unhide KN).mono ?_
  rintro e w1 ⟨rfl, b1⟩
  have B1 := hide b1
  have GO := hide (good_any old now w1)
  clear b1 KN
  go_wp2_with fail
  refine (unhide GO).mono ?_
  rintro e w2 ⟨v2, rfl, ⟨ao, no, co, an, nn, cn, rfl, eno, -, fo, enn, hcn, fn⟩, b2⟩
  obtain ⟨os, hos⟩ : ∃ os, lst (bitOf old) 9 = os := ⟨_, rfl⟩
  obtain ⟨ns, hns⟩ : ∃ ns, plainOf (bitOf now) = ns := ⟨_, rfl⟩
  have UO : Hid (Up os ∧ os.length ≤ 7) := by rw [← hos]; exact ⟨lst_Up _, lst_len _⟩
  have UN : Hid (Up ns ∧ ns.length ≤ 7) := by rw [← hns]; exact ⟨plain_Up _, plain_len _⟩
  rw [hos] at eno fo
  rw [hns] at enn fn
  obtain ⟨A0, hA0, bA0, xA0, -⟩ := boxed w2 (.slice ao no co) (.slice an nn cn)
  have b12 := (unhide B1).trans (b2.mono (unhide B1).size)
  have HA0 := hide hA0
  have BA0 := hide (b12.trans (bA0.mono b12.size))
  have S0 := hide (fun (Y : World) (h : Below A0.heap.size A0 Y) => And.intro (two_cells (Below.stay h xA0)) (And.intro ((fo.below bA0).below h) ((fn.below bA0).below h)))
  have hno7 : no ≤ 7 := by rw [← eno]; exact (unhide UO).2
  have hnn7 : nn ≤ 7 := by rw [← enn]; exact (unhide UN).2
  have ENO := hide eno
  have ENN := hide enn
  have LV := hide (fun (Y : World) (h : Below A0.heap.size A0 Y) => ((unhide HV).below (unhide BA0)).below h)
  have NW := hide (fun (Y : World) (h : Below A0.heap.size A0 Y) => new_any ao an no nn co cn os ns (unhide ENO) (unhide ENN) (by omega) (by omega) Y (unhide S0 Y h).2.1.1 (unhide S0 Y h).2.2.1)
  have RM := hide (fun (Y : World) (h : Below A0.heap.size A0 Y) => rmembers_any ao an no nn co cn os ns (unhide ENO) (unhide ENN) (by omega) (by omega) Y (unhide S0 Y h).2.1.1 (unhide S0 Y h).2.2.1)
  have WM := hide (wf_M (unhide UO).1 (unhide UN).1)
  have L1 : Hid (os.length ≤ 1000 ∧ ns.length ≤ 1000) := by
    have h1 := (unhide UO).2
    have h2 := (unhide UN).2
    exact ⟨by omega, by omega⟩
  clear hos hns eno enn fo fn b2 b12 hA0 bA0 xA0 GO B1
  go_upto_region 4 with fail
  rw [unhide HA0]
  clear HA0
  go_cut [8, 9] from 18 to 22 (fun s8 s9 wc => ∃ (p b q : Nat), s8 = .pointer (some ⟨p, 0, none⟩) ∧ s9 = .pointer (some ⟨q, 0, none⟩) ∧ Vt wc.heap.size wc p b os ns (fun _ => none) 0 ∧ Xv wc.heap.size wc q os ns [] [] ∧ A0.heap.size ≤ b ∧ A0.heap.size ≤ q ∧ Below A0.heap.size A0 wc)
  case first =>
    have EZ := hide (Below.refl A0.heap.size A0).drew
    have SX := hide (fun (Y : World) (h : Below A0.heap.size A0 Y) => (unhide S0 Y h).1)
    have BX := hide (box_at A0.drew (.cells #[.slice ao no co, .slice an nn cn, .slice none 0 0, .slice none 0 0] 41))
    first
    | (go_region_held_law (fun Y => Y.cell? ⟨w2.heap.size, 0, none⟩ = some (.slice ao no co) ∧ Y.cell? ⟨w2.heap.size, 1, none⟩ = some (.slice an nn cn))
        (first
          | exact unhide SX _ (unhide EZ)
          | exact unhide SX _ ((unhide EZ).alloc (unhide EZ).size _))
        (first
          | (go_at_call 13
             refine (unhide NW _ (unhide EZ)).mono ?_
             rintro e wz ⟨p, b, rfl, vz, hb, -, bz⟩
             have V0 := hide vz
             have HB := hide hb
             have E0 := hide ((unhide EZ).trans (bz.mono (unhide EZ).size))
             clear EZ vz hb bz
             have EZ := E0
             clear E0)
          | (go_at_call 13
             refine (unhide NW _ ((unhide EZ).alloc (unhide EZ).size (.cells #[.slice ao no co, .slice an nn cn, .slice none 0 0, .slice none 0 0] 41))).mono ?_
             rintro e wz ⟨p, b, rfl, vz, hb, -, bz⟩
             have V1 := hide vz
             have HB := hide hb
             have XQ := hide (Below.stay bz (unhide BX))
             have E0 := hide (((unhide EZ).alloc (unhide EZ).size (.cells #[.slice ao no co, .slice an nn cn, .slice none 0 0, .slice none 0 0] 41)).trans (bz.mono ((unhide EZ).alloc (unhide EZ).size _).size))
             clear EZ vz hb bz
             have EZ := E0
             clear E0)))
    | fail
    all_goals go_wp2
    all_goals go_meet
    all_goals first
      | (have bb : Below wz.heap.size wz (wz.alloc (.cells #[.slice ao no co, .slice an nn cn, .slice none 0 0, .slice none 0 0] 41)) := (Below.refl _ wz).alloc (Nat.le_refl _) _
         have sb := unhide S0 _ ((unhide EZ).trans (bb.mono (unhide EZ).size))
         exact ⟨p, b, wz.heap.size, rfl, rfl, ((unhide V0).below bb).mono bb.size (Nat.le_refl _), Xv.made (box_at wz _) (unhide ENO) (unhide ENN) sb.2.1 sb.2.2, unhide HB, (unhide EZ).size, (unhide EZ).trans (bb.mono (unhide EZ).size)⟩)
      | (have sb := unhide S0 _ (unhide EZ)
         exact ⟨p, b, A0.heap.size, rfl, rfl, unhide V1, Xv.made (unhide XQ) (unhide ENO) (unhide ENN) sb.2.1 sb.2.2, Nat.le_trans (by simp) (unhide HB), Nat.le_refl _, unhide EZ⟩)
  case rest =>
    obtain ⟨p, b, q, rfl, rfl, vc, xc, hb, hq, bc⟩ := hcut
    obtain ⟨B, hB⟩ : ∃ B, wc.heap.size = B := ⟨_, rfl⟩
    rw [hB] at vc xc
    have VC := hide vc
    have XC := hide xc
    have EC : Hid (Below A0.heap.size A0 wc ∧ B ≤ wc.heap.size) := ⟨bc, by omega⟩
    clear vc xc bc hB NW
    go_wp2_with fail
    go_loopw [10] (fun i wr => ∃ (k : Nat) (f : Int → Option Int) (yes no' : List Int), k ≤ n ∧ k ≤ 40 ∧ i = .int .i64 k ∧ Vt B wr p b os ns f (2 * k) ∧ Xv B wr q os ns yes no' ∧ Ag f yes no' ∧ yes.length ≤ k ∧ no'.length ≤ k ∧ Below A0.heap.size A0 wr ∧ B ≤ wr.heap.size) (fun i _ => 40 - (intOf i).toNat)
    case atStart => exact ⟨0, _, [], [], Nat.zero_le _, Nat.zero_le _, rfl, unhide VC, unhide XC, Ag.nil, Nat.le_refl _, Nat.le_refl _, (unhide EC).1, (unhide EC).2⟩
    case round =>
      obtain ⟨k, f, yes, no', hk, hk40, rfl, hvt, hxv, hag, hly, hln, hbel, hsz⟩ := hrel
      by_cases hlt : k < n ∧ k < 40
      · have q1 : (k : Int) < n := by omega
        have q2 : (k : Int) < 40 := by omega
        have hkl : k < vs.length := by rw [unhide EN]; exact hlt.1
        have LK := hide (fun (Y : World) (h : Below A0.heap.size A0 Y) => unhide LV Y h k hkl)
        obtain ⟨g, off, hg, d1, d2⟩ := unhide LK _ hbel
        subst hg
        have wx := unhide WF _ (vote_mem hkl)
        obtain ⟨⟨x, y⟩, hxk⟩ : ∃ z, vs.getD k (0, false) = z := ⟨_, rfl⟩
        rw [hxk] at wx
        have SX := hide (fun (Y : World) (h : Below A0.heap.size A0 Y) => show Y.cell? ⟨g, off + k * 2, none⟩ = some (.int .i64 x) ∧ Y.cell? ⟨g, off + k * 2 + 1, none⟩ = some (.bool y) from by
          obtain ⟨g', off', hg', d1', d2'⟩ := unhide LK Y h
          cases hg'
          rw [hxk] at d1' d2'
          exact ⟨d1', d2'⟩)
        have AG2 := hide (hag.voted os ns x y)
        have LY2 := hide (Nat.le_trans (ryes_len os ns yes no' x y) (Nat.succ_le_succ hly))
        have LN2 := hide (Nat.le_trans (rno_len os ns yes no' x y) (Nat.succ_le_succ hln))
        have VA := hide (fun (Y : World) (h : Below A0.heap.size A0 Y) (hv : Vt B Y p b os ns f (2 * k)) => add_any (base := A0.heap.size) x y wx Y hv (unhide L1).1 (unhide L1).2 (by omega) hb h.size)
        have XA := hide (fun (Y : World) (hs : B ≤ Y.heap.size) (hx : Xv B Y q os ns yes no') => radd_any (lo := A0.heap.size) x y Y hx (unhide L1).1 (unhide L1).2 (by omega) (by omega) hq hs)
        rw [hag.takes os ns x] at VA
        obtain ⟨f', hf'⟩ : ∃ f', voted os ns f x y = f' := ⟨_, rfl⟩
        obtain ⟨yes2, hyes2⟩ : ∃ yes2, ryes os ns yes no' x y = yes2 := ⟨_, rfl⟩
        obtain ⟨no2, hno2⟩ : ∃ no2, rno os ns yes no' x y = no2 := ⟨_, rfl⟩
        rw [hf'] at VA AG2
        rw [hyes2] at XA AG2 LY2
        rw [hno2] at XA AG2 LN2
        obtain ⟨r, hr⟩ : ∃ r, rtakes os ns yes no' x = r := ⟨_, rfl⟩
        rw [hr] at VA XA
        have VW := hide (fun (Y : World) (hv : Vt B Y p b os ns f' (2 * k + 2)) => won_any Y hv (unhide L1).1 (unhide L1).2 (unhide WM))
        have XW := hide (fun (Y : World) (hx : Xv B Y q os ns yes2 no2) => rwon_any Y hx (unhide L1).1 (unhide L1).2 (by have := unhide LY2; omega))
        have VL := hide (fun (Y : World) (hv : Vt B Y p b os ns f' (2 * k + 2)) => lost_any Y hv (unhide L1).1 (unhide L1).2 (unhide WM))
        have XL := hide (fun (Y : World) (hx : Xv B Y q os ns yes2 no2) => rlost_any Y hx (unhide L1).1 (unhide L1).2 (by have := unhide LN2; omega))
        rw [(unhide AG2).won os ns] at XW
        rw [(unhide AG2).left (unhide UO).1 (unhide UN).1] at XL
        have WLF := hide (won_left (old := os) (new := ns) (f := f'))
        obtain ⟨W, hW⟩ : ∃ W, wonOf os ns f' = W := ⟨_, rfl⟩
        obtain ⟨L, hL⟩ : ∃ L, leftOf os ns f' = L := ⟨_, rfl⟩
        rw [hW] at VW XW WLF
        rw [hL] at VL XL WLF
        have EZ : Hid (Below A0.heap.size A0 wr.drew ∧ B ≤ wr.drew.heap.size) := ⟨hbel.drew, hsz⟩
        have VZ := hide (hvt.below (Below.refl _ wr).drew)
        have XZ := hide (hxv.below (Below.refl _ wr).drew)
        have MP := hide (fun (Y : World) (hv : Vt B Y p b os ns f (2 * k)) => show ∃ es cl, Y.heap[b]? = some (.map es cl) from by
          obtain ⟨_, _, _, _, _, _, _, _, _, _, _, _, _, h8, _, _⟩ := hv
          exact h8.isMap)
        clear hag hly hln hbel hsz hvt hxv hf' hyes2 hno2 hr hW hL hxk hkl LK wx d1 d2
        go_upto_region 8 with fail
        cases W
        · cases L
          · first
            | (go_region_held_law (fun Y => Y.cell? ⟨g, off + k * 2, none⟩ = some (.int .i64 x) ∧ Y.cell? ⟨g, off + k * 2 + 1, none⟩ = some (.bool y))
                (first | exact unhide SX _ (unhide EZ).1)
                (first
              | (go_at_call 14
                 refine (unhide VA _ (unhide EZ).1 (unhide VZ)).mono ?_
                 rintro e wz ⟨rfl, vz, kz⟩
                 have E0 : Hid (Below A0.heap.size A0 wz ∧ B ≤ wz.heap.size) := ⟨(unhide EZ).1.trans kz.1, Nat.le_trans (unhide EZ).2 kz.size⟩
                 obtain ⟨es, cl, hm⟩ := unhide MP _ (unhide VZ)
                 have X0 := hide ((unhide XZ).but hm kz.2)
                 have V0 := hide vz
                 clear EZ VZ XZ vz kz hm
                 have EZ := E0
                 have VZ := V0
                 have XZ := X0
                 clear E0 V0 X0)
              | (go_at_call 15
                 refine (unhide XA _ (unhide EZ).2 (unhide XZ)).mono ?_
                 rintro e wz ⟨rfl, xz, kz⟩
                 have E0 : Hid (Below A0.heap.size A0 wz ∧ B ≤ wz.heap.size) := ⟨(unhide EZ).1.trans kz.1, Nat.le_trans (unhide EZ).2 kz.size⟩
                 have V0 := hide ((unhide VZ).lowq (unhide XZ) (fun j hj hn => kz.2 j (Nat.lt_of_lt_of_le hj (unhide EZ).2) (fun e => e.elim hn (fun e => absurd hj (Nat.not_lt.2 e)))))
                 have X0 := hide xz
                 clear EZ VZ XZ xz kz
                 have EZ := E0
                 have VZ := V0
                 have XZ := X0
                 clear E0 V0 X0)
              | (go_at_call 16
                 refine (unhide VW _ (unhide VZ)).mono ?_
                 rintro e wz ⟨rfl, bz⟩
                 have E0 : Hid (Below A0.heap.size A0 wz ∧ B ≤ wz.heap.size) := ⟨(unhide EZ).1.trans (bz.mono (unhide EZ).1.size), Nat.le_trans (unhide EZ).2 bz.size⟩
                 have V0 := hide ((unhide VZ).below bz)
                 have X0 := hide ((unhide XZ).below bz)
                 clear EZ VZ XZ bz
                 have EZ := E0
                 have VZ := V0
                 have XZ := X0
                 clear E0 V0 X0)
              | (go_at_call 17
                 refine (unhide XW _ (unhide XZ)).mono ?_
                 rintro e wz ⟨rfl, bz⟩
                 have E0 : Hid (Below A0.heap.size A0 wz ∧ B ≤ wz.heap.size) := ⟨(unhide EZ).1.trans (bz.mono (unhide EZ).1.size), Nat.le_trans (unhide EZ).2 bz.size⟩
                 have V0 := hide ((unhide VZ).below bz)
                 have X0 := hide ((unhide XZ).below bz)
                 clear EZ VZ XZ bz
                 have EZ := E0
                 have VZ := V0
                 have XZ := X0
                 clear E0 V0 X0)
              | (go_at_call 18
                 refine (unhide VL _ (unhide VZ)).mono ?_
                 rintro e wz ⟨rfl, bz⟩
                 have E0 : Hid (Below A0.heap.size A0 wz ∧ B ≤ wz.heap.size) := ⟨(unhide EZ).1.trans (bz.mono (unhide EZ).1.size), Nat.le_trans (unhide EZ).2 bz.size⟩
                 have V0 := hide ((unhide VZ).below bz)
                 have X0 := hide ((unhide XZ).below bz)
                 clear EZ VZ XZ bz
                 have EZ := E0
                 have VZ := V0
                 have XZ := X0
                 clear E0 V0 X0)
              | (go_at_call 19
                 refine (unhide XL _ (unhide XZ)).mono ?_
                 rintro e wz ⟨rfl, bz⟩
                 have E0 : Hid (Below A0.heap.size A0 wz ∧ B ≤ wz.heap.size) := ⟨(unhide EZ).1.trans (bz.mono (unhide EZ).1.size), Nat.le_trans (unhide EZ).2 bz.size⟩
                 have V0 := hide ((unhide VZ).below bz)
                 have X0 := hide ((unhide XZ).below bz)
                 clear EZ VZ XZ bz
                 have EZ := E0
                 have VZ := V0
                 have XZ := X0
                 clear E0 V0 X0)))
            | fail
            all_goals go_wp2
            all_goals go_roundw
            case rel => exact ⟨k + 1, f', yes2, no2, by omega, by omega, by go_num, unhide VZ, unhide XZ, unhide AG2, unhide LY2, unhide LN2, (unhide EZ).1, (unhide EZ).2⟩
            case measure => simp [intOf]; omega
          · first
            | (go_region_held_law (fun Y => Y.cell? ⟨g, off + k * 2, none⟩ = some (.int .i64 x) ∧ Y.cell? ⟨g, off + k * 2 + 1, none⟩ = some (.bool y))
                (first | exact unhide SX _ (unhide EZ).1)
                (first
              | (go_at_call 14
                 refine (unhide VA _ (unhide EZ).1 (unhide VZ)).mono ?_
                 rintro e wz ⟨rfl, vz, kz⟩
                 have E0 : Hid (Below A0.heap.size A0 wz ∧ B ≤ wz.heap.size) := ⟨(unhide EZ).1.trans kz.1, Nat.le_trans (unhide EZ).2 kz.size⟩
                 obtain ⟨es, cl, hm⟩ := unhide MP _ (unhide VZ)
                 have X0 := hide ((unhide XZ).but hm kz.2)
                 have V0 := hide vz
                 clear EZ VZ XZ vz kz hm
                 have EZ := E0
                 have VZ := V0
                 have XZ := X0
                 clear E0 V0 X0)
              | (go_at_call 15
                 refine (unhide XA _ (unhide EZ).2 (unhide XZ)).mono ?_
                 rintro e wz ⟨rfl, xz, kz⟩
                 have E0 : Hid (Below A0.heap.size A0 wz ∧ B ≤ wz.heap.size) := ⟨(unhide EZ).1.trans kz.1, Nat.le_trans (unhide EZ).2 kz.size⟩
                 have V0 := hide ((unhide VZ).lowq (unhide XZ) (fun j hj hn => kz.2 j (Nat.lt_of_lt_of_le hj (unhide EZ).2) (fun e => e.elim hn (fun e => absurd hj (Nat.not_lt.2 e)))))
                 have X0 := hide xz
                 clear EZ VZ XZ xz kz
                 have EZ := E0
                 have VZ := V0
                 have XZ := X0
                 clear E0 V0 X0)
              | (go_at_call 16
                 refine (unhide VW _ (unhide VZ)).mono ?_
                 rintro e wz ⟨rfl, bz⟩
                 have E0 : Hid (Below A0.heap.size A0 wz ∧ B ≤ wz.heap.size) := ⟨(unhide EZ).1.trans (bz.mono (unhide EZ).1.size), Nat.le_trans (unhide EZ).2 bz.size⟩
                 have V0 := hide ((unhide VZ).below bz)
                 have X0 := hide ((unhide XZ).below bz)
                 clear EZ VZ XZ bz
                 have EZ := E0
                 have VZ := V0
                 have XZ := X0
                 clear E0 V0 X0)
              | (go_at_call 17
                 refine (unhide XW _ (unhide XZ)).mono ?_
                 rintro e wz ⟨rfl, bz⟩
                 have E0 : Hid (Below A0.heap.size A0 wz ∧ B ≤ wz.heap.size) := ⟨(unhide EZ).1.trans (bz.mono (unhide EZ).1.size), Nat.le_trans (unhide EZ).2 bz.size⟩
                 have V0 := hide ((unhide VZ).below bz)
                 have X0 := hide ((unhide XZ).below bz)
                 clear EZ VZ XZ bz
                 have EZ := E0
                 have VZ := V0
                 have XZ := X0
                 clear E0 V0 X0)
              | (go_at_call 18
                 refine (unhide VL _ (unhide VZ)).mono ?_
                 rintro e wz ⟨rfl, bz⟩
                 have E0 : Hid (Below A0.heap.size A0 wz ∧ B ≤ wz.heap.size) := ⟨(unhide EZ).1.trans (bz.mono (unhide EZ).1.size), Nat.le_trans (unhide EZ).2 bz.size⟩
                 have V0 := hide ((unhide VZ).below bz)
                 have X0 := hide ((unhide XZ).below bz)
                 clear EZ VZ XZ bz
                 have EZ := E0
                 have VZ := V0
                 have XZ := X0
                 clear E0 V0 X0)
              | (go_at_call 19
                 refine (unhide XL _ (unhide XZ)).mono ?_
                 rintro e wz ⟨rfl, bz⟩
                 have E0 : Hid (Below A0.heap.size A0 wz ∧ B ≤ wz.heap.size) := ⟨(unhide EZ).1.trans (bz.mono (unhide EZ).1.size), Nat.le_trans (unhide EZ).2 bz.size⟩
                 have V0 := hide ((unhide VZ).below bz)
                 have X0 := hide ((unhide XZ).below bz)
                 clear EZ VZ XZ bz
                 have EZ := E0
                 have VZ := V0
                 have XZ := X0
                 clear E0 V0 X0)))
            | fail
            all_goals go_wp2
            all_goals go_roundw
            case rel => exact ⟨k + 1, f', yes2, no2, by omega, by omega, by go_num, unhide VZ, unhide XZ, unhide AG2, unhide LY2, unhide LN2, (unhide EZ).1, (unhide EZ).2⟩
            case measure => simp [intOf]; omega
        · obtain rfl : L = true := unhide WLF rfl
          first
          | (go_region_held_law (fun Y => Y.cell? ⟨g, off + k * 2, none⟩ = some (.int .i64 x) ∧ Y.cell? ⟨g, off + k * 2 + 1, none⟩ = some (.bool y))
              (first | exact unhide SX _ (unhide EZ).1)
              (first
            | (go_at_call 14
               refine (unhide VA _ (unhide EZ).1 (unhide VZ)).mono ?_
               rintro e wz ⟨rfl, vz, kz⟩
               have E0 : Hid (Below A0.heap.size A0 wz ∧ B ≤ wz.heap.size) := ⟨(unhide EZ).1.trans kz.1, Nat.le_trans (unhide EZ).2 kz.size⟩
               obtain ⟨es, cl, hm⟩ := unhide MP _ (unhide VZ)
               have X0 := hide ((unhide XZ).but hm kz.2)
               have V0 := hide vz
               clear EZ VZ XZ vz kz hm
               have EZ := E0
               have VZ := V0
               have XZ := X0
               clear E0 V0 X0)
            | (go_at_call 15
               refine (unhide XA _ (unhide EZ).2 (unhide XZ)).mono ?_
               rintro e wz ⟨rfl, xz, kz⟩
               have E0 : Hid (Below A0.heap.size A0 wz ∧ B ≤ wz.heap.size) := ⟨(unhide EZ).1.trans kz.1, Nat.le_trans (unhide EZ).2 kz.size⟩
               have V0 := hide ((unhide VZ).lowq (unhide XZ) (fun j hj hn => kz.2 j (Nat.lt_of_lt_of_le hj (unhide EZ).2) (fun e => e.elim hn (fun e => absurd hj (Nat.not_lt.2 e)))))
               have X0 := hide xz
               clear EZ VZ XZ xz kz
               have EZ := E0
               have VZ := V0
               have XZ := X0
               clear E0 V0 X0)
            | (go_at_call 16
               refine (unhide VW _ (unhide VZ)).mono ?_
               rintro e wz ⟨rfl, bz⟩
               have E0 : Hid (Below A0.heap.size A0 wz ∧ B ≤ wz.heap.size) := ⟨(unhide EZ).1.trans (bz.mono (unhide EZ).1.size), Nat.le_trans (unhide EZ).2 bz.size⟩
               have V0 := hide ((unhide VZ).below bz)
               have X0 := hide ((unhide XZ).below bz)
               clear EZ VZ XZ bz
               have EZ := E0
               have VZ := V0
               have XZ := X0
               clear E0 V0 X0)
            | (go_at_call 17
               refine (unhide XW _ (unhide XZ)).mono ?_
               rintro e wz ⟨rfl, bz⟩
               have E0 : Hid (Below A0.heap.size A0 wz ∧ B ≤ wz.heap.size) := ⟨(unhide EZ).1.trans (bz.mono (unhide EZ).1.size), Nat.le_trans (unhide EZ).2 bz.size⟩
               have V0 := hide ((unhide VZ).below bz)
               have X0 := hide ((unhide XZ).below bz)
               clear EZ VZ XZ bz
               have EZ := E0
               have VZ := V0
               have XZ := X0
               clear E0 V0 X0)
            | (go_at_call 18
               refine (unhide VL _ (unhide VZ)).mono ?_
               rintro e wz ⟨rfl, bz⟩
               have E0 : Hid (Below A0.heap.size A0 wz ∧ B ≤ wz.heap.size) := ⟨(unhide EZ).1.trans (bz.mono (unhide EZ).1.size), Nat.le_trans (unhide EZ).2 bz.size⟩
               have V0 := hide ((unhide VZ).below bz)
               have X0 := hide ((unhide XZ).below bz)
               clear EZ VZ XZ bz
               have EZ := E0
               have VZ := V0
               have XZ := X0
               clear E0 V0 X0)
            | (go_at_call 19
               refine (unhide XL _ (unhide XZ)).mono ?_
               rintro e wz ⟨rfl, bz⟩
               have E0 : Hid (Below A0.heap.size A0 wz ∧ B ≤ wz.heap.size) := ⟨(unhide EZ).1.trans (bz.mono (unhide EZ).1.size), Nat.le_trans (unhide EZ).2 bz.size⟩
               have V0 := hide ((unhide VZ).below bz)
               have X0 := hide ((unhide XZ).below bz)
               clear EZ VZ XZ bz
               have EZ := E0
               have VZ := V0
               have XZ := X0
               clear E0 V0 X0)))
          | fail
          all_goals go_wp2
          all_goals go_roundw
          case rel => exact ⟨k + 1, f', yes2, no2, by omega, by omega, by go_num, unhide VZ, unhide XZ, unhide AG2, unhide LY2, unhide LN2, (unhide EZ).1, (unhide EZ).2⟩
          case measure => simp [intOf]; omega
      · obtain ⟨⟨c0, c1⟩, -, -⟩ := unhide S0 _ hbel
        have MB := hide (unhide RM _ hbel)
        have MS := hide (members_same (unhide UO).1 (unhide UN).1)
        have VZ := hide hvt
        have EZ := hide (And.intro hbel hsz)
        have hk2 : 2 * k ≤ 80 := by omega
        have HLT := hide hlt
        clear hvt hxv hag hly hln hbel hsz RM hlt
        by_cases hkn : k < n
        · have q1 : (k : Int) < n := by omega
          have q2 : ¬ (k : Int) < 40 := by
            intro h
            exact unhide HLT ⟨hkn, by omega⟩
          go_upto_region 10 with fail
          clear q1 HLT hkn
          go_wp2_with fail
          refine (unhide MB).mono ?_
          rintro e w5 ⟨am, m, cm, rfl, hm, fm, b5⟩
          rw [← unhide MS] at hm fm
          have hml : m ≤ 14 := by
            rw [← hm]
            have h1 := ris_length (os ++ ns)
            rw [List.length_append] at h1
            have h2 := (unhide UO).2
            have h3 := (unhide UN).2
            omega
          obtain ⟨M, hM⟩ : ∃ M, ris (os ++ ns) = M := ⟨_, rfl⟩
          have MI : Hid (∀ x ∈ M, inOf os ns x = true ∧ wf64 x) := fun x hx => by
            rw [← hM] at hx
            refine ⟨?_, unhide WM x hx⟩
            unfold inOf
            rw [Bool.or_eq_true, List.contains_iff_mem, List.contains_iff_mem]; exact mem_M.1 hx
          have MJ : Hid (∀ z, z ∈ os ∨ z ∈ ns → z ∈ M) := fun z hz => by rw [← hM]; exact mem_M.2 hz
          rw [hM] at hm fm
          have HM := hide hm
          have FM := hide fm.1
          have V5 := hide ((unhide VZ).below b5)
          have E5 := hide ((unhide EZ).1.trans (b5.mono (unhide EZ).1.size))
          clear hm fm b5 hM MB MS VZ c0 c1
          go_wp2_with fail
          go_loopw [12] (fun i wr => ∃ (j : Nat) (f2 : Int → Option Int), j ≤ m ∧ i = .int .i64 j ∧ Vt B wr p b os ns f2 (80 + 2 * j) ∧ (∀ t, t < j → saidOf f2 (M.getD t 0) ≠ 0) ∧ Kept A0.heap.size (fun t => t = b) w5 wr) (fun i _ => m - (intOf i).toNat)
          case atStart => exact ⟨0, f, Nat.zero_le _, rfl, (unhide V5).mono (Nat.le_refl _) (by omega), fun t ht => by omega, Kept.refl _ _ _⟩
          case round =>
            obtain ⟨j, f2, hj, rfl, hv2, hsd, hkp⟩ := hrel
            have HSD := hide hsd
            have V2 := hide hv2
            have KP := hide hkp
            have E6 := hide ((unhide E5).trans hkp.1)
            clear hsd hkp hv2
            by_cases hlj : j < m
            · have hjl : j < M.length := by rw [unhide HM]; exact hlj
              obtain ⟨a6, ha6, h6⟩ := unhide FM j hjl
              subst ha6
              have q3 : (j : Int) < m := by omega
              have h6' : wr.cell? (a6.add j) = some (.int .i64 (M.getD j 0)) := by
                have hv5 := unhide V5
                obtain ⟨_, _, _, _, _, _, _, _, _, _, _, _, _, h8, _, _⟩ := hv5
                obtain ⟨es, cl, hmp⟩ := h8.isMap
                rw [← h6]
                refine World.cell?_of_block ((unhide KP).2 _ (blk_lt h6) fun e => ?_)
                simp only [World.cell?] at h6
                rw [e, hmp] at h6
                cases h6
              obtain ⟨hin, hwx⟩ := unhide MI _ (mem_getD hjl)
              have NW := hide (said_now (f := f2) (y := false) hin)
              have ST := hide (fun z => said_stays (old := os) (new := ns) (f := f2) (x := M.getD j 0) (y := false) (z := z))
              obtain ⟨x, hx⟩ : ∃ x, M.getD j 0 = x := ⟨_, rfl⟩
              have HX := hide hx
              rw [hx] at h6' hwx NW ST
              have AD := hide (add_any (base := A0.heap.size) x false hwx wr (unhide V2) (unhide L1).1 (unhide L1).2 (by omega) hb (unhide E6).size)
              clear h6 hjl hin hwx hx
              go_wp2_with fail
              refine (unhide AD).mono ?_
              rintro e w7 ⟨rfl, v7, k7⟩
              have V7 := hide v7
              have K7 : Hid (Kept A0.heap.size (fun t => t = b) w5 w7) := (unhide KP).trans k7 (fun _ _ e => e)
              clear v7 k7 AD
              go_wp2
              go_roundw
              case rel =>
                refine ⟨j + 1, _, by omega, by go_num, (unhide V7).mono (Nat.le_refl _) (by omega), fun t ht => ?_, unhide K7⟩
                by_cases htj : t < j
                · exact unhide ST _ (unhide HSD t htj)
                · obtain rfl : t = j := by omega
                  rw [unhide HX]; exact unhide NW
              case measure => simp [intOf]; omega
            · obtain rfl : j = m := by omega
              have LW := left_won (old := os) (new := ns) (f := f2) (fun z hz => by
                obtain ⟨t, ht, e⟩ := List.mem_iff_getElem.1 (unhide MJ z hz)
                have := unhide HSD t (by rw [← unhide HM]; exact ht)
                rw [List.getD_eq_getElem?_getD, List.getElem?_eq_getElem ht] at this
                rw [← e]; exact this)
              have WO := hide (fun (Y : World) (hv : Vt B Y p b os ns f2 (80 + 2 * j)) => won_any Y hv (unhide L1).1 (unhide L1).2 (unhide WM))
              have LO := hide (fun (Y : World) (hv : Vt B Y p b os ns f2 (80 + 2 * j)) => lost_any Y hv (unhide L1).1 (unhide L1).2 (unhide WM))
              rw [LW] at LO
              obtain ⟨R, hR⟩ : ∃ R, wonOf os ns f2 = R := ⟨_, rfl⟩
              rw [hR] at WO LO
              have W1 := hide (unhide WO _ (unhide V2))
              clear LW hR WO
              go_wp2_with fail
              refine (unhide W1).mono ?_
              rintro e w8 ⟨rfl, b8⟩
              have LO2 := hide (unhide LO _ ((unhide V2).below b8))
              have E8 := hide ((unhide E6).trans (b8.mono (unhide E6).size))
              clear b8 W1 LO
              go_wp2_with fail
              refine (unhide LO2).mono ?_
              rintro e w9 ⟨rfl, b9⟩
              have E9 := hide ((unhide E8).trans (b9.mono (unhide E8).size))
              clear b9 LO2
              go_wp2
              go_ret
              exact ⟨by cases R <;> rfl, (unhide BA0).trans ((unhide E9).mono (unhide BA0).size)⟩
        · have q1 : ¬ (k : Int) < n := by omega
          go_upto_region 10 with fail
          clear q1 HLT hkn
          go_wp2_with fail
          refine (unhide MB).mono ?_
          rintro e w5 ⟨am, m, cm, rfl, hm, fm, b5⟩
          rw [← unhide MS] at hm fm
          have hml : m ≤ 14 := by
            rw [← hm]
            have h1 := ris_length (os ++ ns)
            rw [List.length_append] at h1
            have h2 := (unhide UO).2
            have h3 := (unhide UN).2
            omega
          obtain ⟨M, hM⟩ : ∃ M, ris (os ++ ns) = M := ⟨_, rfl⟩
          have MI : Hid (∀ x ∈ M, inOf os ns x = true ∧ wf64 x) := fun x hx => by
            rw [← hM] at hx
            refine ⟨?_, unhide WM x hx⟩
            unfold inOf
            rw [Bool.or_eq_true, List.contains_iff_mem, List.contains_iff_mem]; exact mem_M.1 hx
          have MJ : Hid (∀ z, z ∈ os ∨ z ∈ ns → z ∈ M) := fun z hz => by rw [← hM]; exact mem_M.2 hz
          rw [hM] at hm fm
          have HM := hide hm
          have FM := hide fm.1
          have V5 := hide ((unhide VZ).below b5)
          have E5 := hide ((unhide EZ).1.trans (b5.mono (unhide EZ).1.size))
          clear hm fm b5 hM MB MS VZ c0 c1
          go_wp2_with fail
          go_loopw [12] (fun i wr => ∃ (j : Nat) (f2 : Int → Option Int), j ≤ m ∧ i = .int .i64 j ∧ Vt B wr p b os ns f2 (80 + 2 * j) ∧ (∀ t, t < j → saidOf f2 (M.getD t 0) ≠ 0) ∧ Kept A0.heap.size (fun t => t = b) w5 wr) (fun i _ => m - (intOf i).toNat)
          case atStart => exact ⟨0, f, Nat.zero_le _, rfl, (unhide V5).mono (Nat.le_refl _) (by omega), fun t ht => by omega, Kept.refl _ _ _⟩
          case round =>
            obtain ⟨j, f2, hj, rfl, hv2, hsd, hkp⟩ := hrel
            have HSD := hide hsd
            have V2 := hide hv2
            have KP := hide hkp
            have E6 := hide ((unhide E5).trans hkp.1)
            clear hsd hkp hv2
            by_cases hlj : j < m
            · have hjl : j < M.length := by rw [unhide HM]; exact hlj
              obtain ⟨a6, ha6, h6⟩ := unhide FM j hjl
              subst ha6
              have q3 : (j : Int) < m := by omega
              have h6' : wr.cell? (a6.add j) = some (.int .i64 (M.getD j 0)) := by
                have hv5 := unhide V5
                obtain ⟨_, _, _, _, _, _, _, _, _, _, _, _, _, h8, _, _⟩ := hv5
                obtain ⟨es, cl, hmp⟩ := h8.isMap
                rw [← h6]
                refine World.cell?_of_block ((unhide KP).2 _ (blk_lt h6) fun e => ?_)
                simp only [World.cell?] at h6
                rw [e, hmp] at h6
                cases h6
              obtain ⟨hin, hwx⟩ := unhide MI _ (mem_getD hjl)
              have NW := hide (said_now (f := f2) (y := false) hin)
              have ST := hide (fun z => said_stays (old := os) (new := ns) (f := f2) (x := M.getD j 0) (y := false) (z := z))
              obtain ⟨x, hx⟩ : ∃ x, M.getD j 0 = x := ⟨_, rfl⟩
              have HX := hide hx
              rw [hx] at h6' hwx NW ST
              have AD := hide (add_any (base := A0.heap.size) x false hwx wr (unhide V2) (unhide L1).1 (unhide L1).2 (by omega) hb (unhide E6).size)
              clear h6 hjl hin hwx hx
              go_wp2_with fail
              refine (unhide AD).mono ?_
              rintro e w7 ⟨rfl, v7, k7⟩
              have V7 := hide v7
              have K7 : Hid (Kept A0.heap.size (fun t => t = b) w5 w7) := (unhide KP).trans k7 (fun _ _ e => e)
              clear v7 k7 AD
              go_wp2
              go_roundw
              case rel =>
                refine ⟨j + 1, _, by omega, by go_num, (unhide V7).mono (Nat.le_refl _) (by omega), fun t ht => ?_, unhide K7⟩
                by_cases htj : t < j
                · exact unhide ST _ (unhide HSD t htj)
                · obtain rfl : t = j := by omega
                  rw [unhide HX]; exact unhide NW
              case measure => simp [intOf]; omega
            · obtain rfl : j = m := by omega
              have LW := left_won (old := os) (new := ns) (f := f2) (fun z hz => by
                obtain ⟨t, ht, e⟩ := List.mem_iff_getElem.1 (unhide MJ z hz)
                have := unhide HSD t (by rw [← unhide HM]; exact ht)
                rw [List.getD_eq_getElem?_getD, List.getElem?_eq_getElem ht] at this
                rw [← e]; exact this)
              have WO := hide (fun (Y : World) (hv : Vt B Y p b os ns f2 (80 + 2 * j)) => won_any Y hv (unhide L1).1 (unhide L1).2 (unhide WM))
              have LO := hide (fun (Y : World) (hv : Vt B Y p b os ns f2 (80 + 2 * j)) => lost_any Y hv (unhide L1).1 (unhide L1).2 (unhide WM))
              rw [LW] at LO
              obtain ⟨R, hR⟩ : ∃ R, wonOf os ns f2 = R := ⟨_, rfl⟩
              rw [hR] at WO LO
              have W1 := hide (unhide WO _ (unhide V2))
              clear LW hR WO
              go_wp2_with fail
              refine (unhide W1).mono ?_
              rintro e w8 ⟨rfl, b8⟩
              have LO2 := hide (unhide LO _ ((unhide V2).below b8))
              have E8 := hide ((unhide E6).trans (b8.mono (unhide E6).size))
              clear b8 W1 LO
              go_wp2_with fail
              refine (unhide LO2).mono ?_
              rintro e w9 ⟨rfl, b9⟩
              have E9 := hide ((unhide E8).trans (b9.mono (unhide E8).size))
              clear b9 LO2
              go_wp2
              go_ret
              exact ⟨by cases R <;> rfl, (unhide BA0).trans ((unhide E9).mono (unhide BA0).size)⟩
end Go.Proofs.Ytjcidihcmbenhaa
