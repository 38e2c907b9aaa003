/- ConfAsks: the walk. -/
import Derived.Test.YthemdkfmlkaifaaKRefC
import Derived.Test.YthemdkfmlkaifaaKRefM
import Derived.Test.YthemdkfmlkaifaaKRefQ
import Derived.Test.YthemdkfmlkaifaaKKnown
import Derived.Test.YthemdkfmlkaifaaKSameC
import Derived.Test.YthemdkfmlkaifaaKGood
import Derived.Deep.RegionHeldLaw
namespace Go.Proofs.Ythemdkfmlkaifaa
open Go.RowKit

theorem same_self (o n : List Int) : sameOf o n o n = true := by unfold sameOf; rw [decide_eq_true rfl, decide_eq_true rfl]; rfl

set_option maxRecDepth 20000 in
set_option maxHeartbeats 8000000 in
theorem asks_walk (ao an : Option Addr) (no nn co cn : Nat) (lo ln : List Int) (hno : lo.length = no) (hnn : ln.length = nn) (hmo : no ≤ maxLen) (hmn : nn ≤ maxLen) (old now : Int) (ay : Option Addr) (m d : Nat) (ys : List Int) (hm : ys.length = m) (hmm : m ≤ maxLen) (id : Int) (w : World) (ho : IntsR w ao lo) (hw : IntsR w an ln) (hy : IntsR w ay ys) :
    Calls Try.prog 3 #[.agg #[.slice ao no co, .slice an nn cn], .int .i64 old, .int .i64 now, .slice ay m d, .int .i64 id] w fun e w' => e = .returned (.bool true) ∧ Below w.heap.size w w' := by
  have hmm' : m ≤ 9223372036854775807 := hmm
  have hmo' : no ≤ 9223372036854775807 := hmo
  have hmn' : nn ≤ 9223372036854775807 := hmn
  obtain ⟨W, hW, bW, xW, -⟩ := boxed w (.slice ao no co) (.slice an nn cn)
  have KN := hide (known_any W)
  have BW := hide bW
  have HW := hide hW
  have S0 := hide (fun (Y : World) (h : Below W.heap.size W Y) => And.intro (Below.stay h xW) (And.intro ((ho.below bW).below h) (And.intro ((hw.below bW).below h) ((hy.below bW).below h))))
  have ENO := hide hno
  have ENN := hide hnn
  have EM0 := hide hm
  clear hW bW xW ho hw hy hno hnn hm hmm hmo hmn
  go_enter Try.func3, Try.ntmps3
  go_wp2_with fail
  rw [unhide HW]
  refine (unhide KN).mono ?_
  rintro e w1 ⟨rfl, b1⟩
  have E1 := hide b1
  obtain ⟨c0, c1⟩ := two_cells (unhide S0 _ b1).1
  clear b1 KN HW
  by_cases h1 : (30 : Int) < no
  · go_wp2
    go_ret
    exact ⟨rfl, (unhide BW).trans ((unhide E1).mono (unhide BW).size)⟩
  · by_cases h2 : (30 : Int) < nn
    · go_wp2
      go_ret
      exact ⟨rfl, (unhide BW).trans ((unhide E1).mono (unhide BW).size)⟩
    · by_cases h3 : (30 : Int) < m
      · go_wp2
        go_ret
        exact ⟨rfl, (unhide BW).trans ((unhide E1).mono (unhide BW).size)⟩
      · have CK := hide (fun (Y : World) (h : Below W.heap.size W Y) => check_any ao an no nn co cn lo ln (unhide ENO) (unhide ENN) (by omega) (by omega) Y (unhide S0 _ h).2.1 (unhide S0 _ h).2.2.1)
        have RC := hide (fun (Y : World) (h : Below W.heap.size W Y) => rcheck_any ao an no nn co cn lo ln (unhide ENO) (unhide ENN) (by omega) (by omega) Y (unhide S0 _ h).2.1 (unhide S0 _ h).2.2.1)
        obtain ⟨ck, hck⟩ : ∃ ck, checkOf lo ln = ck := ⟨_, rfl⟩
        rw [hck] at CK RC
        have SX := hide (fun (Y : World) (h : Below W.heap.size W Y) => two_cells (unhide S0 Y h).1)
        have GO := hide (fun (Y : World) => good_any old now Y)
        clear hck
        go_upto_region 5 with fail
        have EZ := hide (unhide E1).drew
        clear c0 c1
        first
        | (go_region_held_law (fun Y => Y.cell? ⟨w.heap.size, 0, none⟩ = some (.slice ao no co) ∧ Y.cell? ⟨w.heap.size, 1, none⟩ = some (.slice an nn cn))
            (first | exact unhide SX _ (unhide EZ))
            (first
            | (go_at_call 10
               refine (unhide CK _ (unhide EZ)).mono ?_
               rintro e wz ⟨rfl, bz⟩
               have E0 := hide ((unhide EZ).trans (bz.mono (unhide EZ).size))
               clear bz EZ
               have EZ := E0
               clear E0)
            | (go_at_call 11
               refine (unhide RC _ (unhide EZ)).mono ?_
               rintro e wz ⟨rfl, bz⟩
               have E0 := hide ((unhide EZ).trans (bz.mono (unhide EZ).size))
               clear bz EZ
               have EZ := E0
               clear E0)))
        | fail
        clear CK RC
        go_wp2_with fail
        refine (unhide GO _).mono ?_
        rintro e w2 ⟨v2, rfl, ⟨go, n1, p1, gn, n2, p2, rfl, e1, _, fo, e2, _, fn⟩, b2⟩
        obtain ⟨os, hos⟩ : ∃ os, lst (bitOf old) 9 = os := ⟨_, rfl⟩
        obtain ⟨ns, hns⟩ : ∃ ns, plainOf (bitOf now) = ns := ⟨_, rfl⟩
        have UO : Hid (Up os ∧ os.length ≤ 7) := by rw [← hos]; exact ⟨lst_Up _, lst_len _⟩
        have UN : Hid (Up ns ∧ ns.length ≤ 7 ∧ ns ≠ []) := by rw [← hns]; exact ⟨plain_Up _, plain_len _, plain_ne _⟩
        rw [hos] at e1 fo
        rw [hns] at e2 fn
        have hn17 : n1 ≤ 7 := by rw [← e1]; exact (unhide UO).2
        have hn27 : n2 ≤ 7 := by rw [← e2]; exact (unhide UN).2.1
        obtain ⟨A0, hA0, bA0, xA0, -⟩ := boxed w2 (.slice go n1 p1) (.slice gn n2 p2)
        have b20 := b2.trans (bA0.mono b2.size)
        have E2 := hide ((unhide EZ).trans (b20.mono (unhide EZ).size))
        have S1 := hide (fun (Y : World) (h : Below A0.heap.size A0 Y) => And.intro (unhide S0 Y ((unhide E2).trans (h.mono (unhide E2).size))) (And.intro (Below.stay h xA0) (And.intro ((fo.below bA0).below h) ((fn.below bA0).below h))))
        have HA0 := hide hA0
        have EG1 := hide e1
        have EG2 := hide e2
        have BF := hide ((unhide BW).trans ((unhide E2).mono (unhide BW).size))
        clear hos hns e1 e2 fo fn b2 b20 hA0 bA0 xA0 GO EZ S0 SX E1 E2 BW
        go_upto_region 8 with fail
        rw [unhide HA0]
        clear HA0
        have CK := hide (fun (Y : World) (h : Below A0.heap.size A0 Y) => check_any go gn n1 n2 p1 p2 os ns (unhide EG1) (unhide EG2) (by omega) (by omega) Y (unhide S1 _ h).2.2.1.1 (unhide S1 _ h).2.2.2.1)
        rw [check_good (unhide UO).1 (unhide UO).2 (unhide UN).1 (unhide UN).2.1 (unhide UN).2.2] at CK
        have ME := hide (fun (Y : World) (h : Below A0.heap.size A0 Y) => members_any go gn n1 n2 p1 p2 os ns (unhide EG1) (unhide EG2) (by omega) (by omega) Y (unhide S1 _ h).2.2.1.1 (unhide S1 _ h).2.2.2.1)
        have RM := hide (fun (Y : World) (h : Below A0.heap.size A0 Y) => rmembers_any go gn n1 n2 p1 p2 os ns (unhide EG1) (unhide EG2) (by omega) (by omega) Y (unhide S1 _ h).2.2.1.1 (unhide S1 _ h).2.2.2.1)
        have JO := hide (fun (Y : World) => joint_any (.slice go n1 p1) (.slice gn n2 p2) go n1 p1 rfl Y)
        have RJ := hide (fun (Y : World) => rjoint_any (.slice go n1 p1) (.slice gn n2 p2) go n1 p1 rfl Y)
        have QU := hide (fun (Y : World) (h : Below A0.heap.size A0 Y) => quorum_any go gn n1 n2 p1 p2 os ns (unhide EG1) (unhide EG2) ay m d ys (unhide EM0) (by omega) (by omega) (by omega) Y (unhide S1 _ h).2.2.1.1 (unhide S1 _ h).2.2.2.1 (unhide S1 _ h).1.2.2.2)
        have RQ := hide (fun (Y : World) (h : Below A0.heap.size A0 Y) => rquorum_any go gn n1 n2 p1 p2 os ns (unhide EG1) (unhide EG2) ay m d ys (unhide EM0) (by omega) (by omega) (by omega) Y (unhide S1 _ h).2.2.1.1 (unhide S1 _ h).2.2.2.1 (unhide S1 _ h).1.2.2.2)
        have IN := hide (fun (Y : World) (h : Below A0.heap.size A0 Y) => in_any go gn n1 n2 p1 p2 os ns (unhide EG1) (unhide EG2) (by omega) (by omega) id Y (unhide S1 _ h).2.2.1 (unhide S1 _ h).2.2.2)
        have RI := hide (fun (Y : World) (h : Below A0.heap.size A0 Y) => rin_any go gn n1 n2 p1 p2 os ns (unhide EG1) (unhide EG2) (by omega) (by omega) id Y (unhide S1 _ h).2.2.1.1 (unhide S1 _ h).2.2.2.1)
        have SM := hide (fun (Y : World) (h : Below A0.heap.size A0 Y) => same_any ao an go gn no nn co cn n1 n2 p1 p2 lo ln os ns (unhide ENO) (unhide ENN) (unhide EG1) (unhide EG2) (by omega) (by omega) Y (unhide S1 _ h).1.2.1 (unhide S1 _ h).1.2.2.1 (unhide S1 _ h).2.2.1.1 (unhide S1 _ h).2.2.2.1)
        have RS := hide (fun (Y : World) (h : Below A0.heap.size A0 Y) => rsame_any ao an go gn no nn co cn n1 n2 p1 p2 lo ln os ns (unhide ENO) (unhide ENN) (unhide EG1) (unhide EG2) (by omega) (by omega) Y (unhide S1 _ h).1.2.1 (unhide S1 _ h).1.2.2.1 (unhide S1 _ h).2.2.1.1 (unhide S1 _ h).2.2.2.1)
        have SG := hide (fun (Y : World) (h : Below A0.heap.size A0 Y) => same_any go gn go gn n1 n2 p1 p2 n1 n2 p1 p2 os ns os ns (unhide EG1) (unhide EG2) (unhide EG1) (unhide EG2) (by omega) (by omega) Y (unhide S1 _ h).2.2.1.1 (unhide S1 _ h).2.2.2.1 (unhide S1 _ h).2.2.1.1 (unhide S1 _ h).2.2.2.1)
        have SC := hide (fun (Y : World) (h : Below A0.heap.size A0 Y) => same_any ao an ao an no nn co cn no nn co cn lo ln lo ln (unhide ENO) (unhide ENN) (unhide ENO) (unhide ENN) (by omega) (by omega) Y (unhide S1 _ h).1.2.1 (unhide S1 _ h).1.2.2.1 (unhide S1 _ h).1.2.1 (unhide S1 _ h).1.2.2.1)
        rw [same_self] at SG SC
        have SX := hide (fun (Y : World) (h : Below A0.heap.size A0 Y) => And.intro (two_cells (unhide S1 Y h).1.1) (two_cells (unhide S1 Y h).2.1))
        obtain ⟨jb, hjb⟩ : ∃ b, decide (0 < n1) = b := ⟨_, rfl⟩
        obtain ⟨qb, hqb⟩ : ∃ b, quorumOf os ns ys = b := ⟨_, rfl⟩
        obtain ⟨ib, hib⟩ : ∃ b, inOf os ns id = b := ⟨_, rfl⟩
        obtain ⟨sb, hsb⟩ : ∃ b, sameOf lo ln os ns = b := ⟨_, rfl⟩
        rw [hjb] at JO RJ
        rw [hqb] at QU RQ
        rw [hib] at IN RI
        rw [hsb] at SM RS
        have bjb : (jb == jb) = true := by simp
        have bqb : (qb == qb) = true := by simp
        have bib : (ib == ib) = true := by simp
        have bsb : (sb == sb) = true := by simp
        have EZ := hide (Below.refl A0.heap.size A0).drew
        clear hjb hqb hib hsb
        first
        | (go_region_held_law (fun Y => (Y.cell? ⟨w.heap.size, 0, none⟩ = some (.slice ao no co) ∧ Y.cell? ⟨w.heap.size, 1, none⟩ = some (.slice an nn cn)) ∧ Y.cell? ⟨w2.heap.size, 0, none⟩ = some (.slice go n1 p1) ∧ Y.cell? ⟨w2.heap.size, 1, none⟩ = some (.slice gn n2 p2))
            (first | exact unhide SX _ (unhide EZ))
            (first
            | (go_at_call 10
               refine (unhide CK _ (unhide EZ)).mono ?_
               rintro e wz ⟨rfl, bz⟩
               have E0 := hide ((unhide EZ).trans (bz.mono (unhide EZ).size))
               clear bz EZ
               have EZ := E0
               clear E0)
            | (go_at_call 14
               refine (unhide ME _ (unhide EZ)).mono ?_
               rintro e wz ⟨am, mm, cm, rfl, em, _, hml, fm, bz⟩
               have EM := hide em
               have FM := hide fm
               have E0 := hide ((unhide EZ).trans (bz.mono (unhide EZ).size))
               clear bz EZ
               clear em fm
               have EZ := E0
               clear E0)
            | (go_at_call 15
               refine (unhide RM _ (unhide EZ)).mono ?_
               rintro e wz ⟨bm, m2, c2, rfl, em2, fm2, bz⟩
               have SI := hide (sameInts_any am bm mm m2 cm c2 (ris (os ++ ns)) (allOf (memB os ns) 9) (unhide EM) em2 (by omega) wz ((unhide FM).1.below bz) fm2.1)
               rw [decide_eq_true (members_same (unhide UO).1 (unhide UN).1)] at SI
               have E0 := hide ((unhide EZ).trans (bz.mono (unhide EZ).size))
               clear bz EZ
               clear em2 fm2
               have EZ := E0
               clear E0)
            | (go_at_call 13
               refine (unhide SI).mono ?_
               rintro e wz ⟨rfl, bz⟩
               have E0 := hide ((unhide EZ).trans (bz.mono (unhide EZ).size))
               clear bz EZ
               have EZ := E0
               clear E0)
            | (go_at_call 16
               refine (unhide JO _).mono ?_
               rintro e wz ⟨rfl, bz⟩
               have E0 := hide ((unhide EZ).trans (bz.mono (unhide EZ).size))
               clear bz EZ
               have EZ := E0
               clear E0)
            | (go_at_call 17
               refine (unhide RJ _).mono ?_
               rintro e wz ⟨rfl, bz⟩
               have E0 := hide ((unhide EZ).trans (bz.mono (unhide EZ).size))
               clear bz EZ
               have EZ := E0
               clear E0)
            | (go_at_call 18
               refine (unhide QU _ (unhide EZ)).mono ?_
               rintro e wz ⟨rfl, bz⟩
               have E0 := hide ((unhide EZ).trans (bz.mono (unhide EZ).size))
               clear bz EZ
               have EZ := E0
               clear E0)
            | (go_at_call 19
               refine (unhide RQ _ (unhide EZ)).mono ?_
               rintro e wz ⟨rfl, bz⟩
               have E0 := hide ((unhide EZ).trans (bz.mono (unhide EZ).size))
               clear bz EZ
               have EZ := E0
               clear E0)
            | (go_at_call 20
               refine (unhide IN _ (unhide EZ)).mono ?_
               rintro e wz ⟨rfl, bz⟩
               have E0 := hide ((unhide EZ).trans (bz.mono (unhide EZ).size))
               clear bz EZ
               have EZ := E0
               clear E0)
            | (go_at_call 21
               refine (unhide RI _ (unhide EZ)).mono ?_
               rintro e wz ⟨rfl, bz⟩
               have E0 := hide ((unhide EZ).trans (bz.mono (unhide EZ).size))
               clear bz EZ
               have EZ := E0
               clear E0)
            | (go_at_call 23
               refine (unhide RS _ (unhide EZ)).mono ?_
               rintro e wz ⟨rfl, bz⟩
               have E0 := hide ((unhide EZ).trans (bz.mono (unhide EZ).size))
               clear bz EZ
               have EZ := E0
               clear E0)
            | (go_at_call_of 22 (Value.agg #[.slice ao no co, .slice an nn cn])
               go_at_call_of 22 (Value.agg #[.slice go n1 p1, .slice gn n2 p2])
               refine (unhide SM _ (unhide EZ)).mono ?_
               rintro e wz ⟨rfl, bz⟩
               have E0 := hide ((unhide EZ).trans (bz.mono (unhide EZ).size))
               clear bz EZ
               have EZ := E0
               clear E0)
            | (go_at_call_of 22 (Value.agg #[.slice go n1 p1, .slice gn n2 p2])
               refine (unhide SG _ (unhide EZ)).mono ?_
               rintro e wz ⟨rfl, bz⟩
               have E0 := hide ((unhide EZ).trans (bz.mono (unhide EZ).size))
               clear bz EZ
               have EZ := E0
               clear E0)
            | (go_at_call_of 22 (Value.agg #[.slice ao no co, .slice an nn cn])
               refine (unhide SC _ (unhide EZ)).mono ?_
               rintro e wz ⟨rfl, bz⟩
               have E0 := hide ((unhide EZ).trans (bz.mono (unhide EZ).size))
               clear bz EZ
               have EZ := E0
               clear E0)))
        | fail
        go_wp2
        go_ret
        exact ⟨rfl, (unhide BF).trans ((unhide EZ).mono (unhide BF).size)⟩
end Go.Proofs.Ythemdkfmlkaifaa
