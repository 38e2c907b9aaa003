/- synodallaw2.GoodMsg: a contract, by cases. -/
import Derived.Test.YtojmnlbdhpledaaDoorCutsD
import Derived.Test.YtojmnlbdhpledaaDoorCutsE
namespace Go.Proofs.YtojmnlbdhpledaaDoor
open Go.RowKit

theorem goodMsg_any (x0 x1 x2 x3 x4 x5 x6 x7 : Int) (y : Bool) (aot aoe aoo aon : Option Addr) (nt ct ne ce no co nn cn : Nat) (es : List En) (hne : es.length = ne) (l1 : nt ≤ ct) (l1' : ct ≤ maxLen) (l2 : ne ≤ maxLen) (l3 : no ≤ co) (l3' : co ≤ maxLen) (l4 : nn ≤ cn) (l4' : cn ≤ maxLen)
    (u1 : aot = none → ct = 0) (u3 : aoo = none → co = 0) (u4 : aon = none → cn = 0) (w w0 : World) (h0w : Below w0.heap.size w0 w) (he : EntsAt w0 aoe es) :
    Calls Tryd.prog 23 #[.agg #[.int .i64 x0, .int .i64 x1, .int .i64 x2, .int .i64 x3, .int .i64 x4, .int .i64 x5, .int .i64 x6, .int .i64 x7, .bool y, .slice aot nt ct, .slice aoe ne ce, .slice aoo no co, .slice aon nn cn]] w fun e w' => ∃ aol k cl, e = .returned (.agg #[.int .i64 x0, .int .i64 x1, .int .i64 x2, .int .i64 (1 + x3 % 15), .int .i64 x4, .int .i64 x5, .int .i64 x6, .int .i64 x7, .bool y, .slice aot (min nt 64) ct, .slice aol k cl, .slice aoo (min no 9) co, .slice aon (min nn 9) cn]) ∧ ((es.take 64).map goodE).length = k ∧ k ≤ cl ∧ cl ≤ maxLen ∧ (aol = none → cl = 0) ∧ (∃ vs, w'.ownsRow w.heap.size 24 6 (.slice aol k cl) k vs ∧ Six w0 vs ((es.take 64).map goodE)) ∧ Below w.heap.size w w' := by
  by_cases q1 : 64 < nt
  · by_cases q2 : 9 < no
    · by_cases q3 : 9 < nn
      · exact goodMsg_111 x0 x1 x2 x3 x4 x5 x6 x7 y aot aoe aoo aon nt ct ne ce no co nn cn es hne l1 l1' l2 l3 l3' l4 l4' u1 u3 u4 w w0 h0w he q1 q2 q3
      · exact goodMsg_110 x0 x1 x2 x3 x4 x5 x6 x7 y aot aoe aoo aon nt ct ne ce no co nn cn es hne l1 l1' l2 l3 l3' l4 l4' u1 u3 u4 w w0 h0w he q1 q2 q3
    · by_cases q3 : 9 < nn
      · exact goodMsg_101 x0 x1 x2 x3 x4 x5 x6 x7 y aot aoe aoo aon nt ct ne ce no co nn cn es hne l1 l1' l2 l3 l3' l4 l4' u1 u3 u4 w w0 h0w he q1 q2 q3
      · exact goodMsg_100 x0 x1 x2 x3 x4 x5 x6 x7 y aot aoe aoo aon nt ct ne ce no co nn cn es hne l1 l1' l2 l3 l3' l4 l4' u1 u3 u4 w w0 h0w he q1 q2 q3
  · by_cases q2 : 9 < no
    · by_cases q3 : 9 < nn
      · exact goodMsg_011 x0 x1 x2 x3 x4 x5 x6 x7 y aot aoe aoo aon nt ct ne ce no co nn cn es hne l1 l1' l2 l3 l3' l4 l4' u1 u3 u4 w w0 h0w he q1 q2 q3
      · exact goodMsg_010 x0 x1 x2 x3 x4 x5 x6 x7 y aot aoe aoo aon nt ct ne ce no co nn cn es hne l1 l1' l2 l3 l3' l4 l4' u1 u3 u4 w w0 h0w he q1 q2 q3
    · by_cases q3 : 9 < nn
      · exact goodMsg_001 x0 x1 x2 x3 x4 x5 x6 x7 y aot aoe aoo aon nt ct ne ce no co nn cn es hne l1 l1' l2 l3 l3' l4 l4' u1 u3 u4 w w0 h0w he q1 q2 q3
      · exact goodMsg_000 x0 x1 x2 x3 x4 x5 x6 x7 y aot aoe aoo aon nt ct ne ce no co nn cn es hne l1 l1' l2 l3 l3' l4 l4' u1 u3 u4 w w0 h0w he q1 q2 q3
end Go.Proofs.YtojmnlbdhpledaaDoor
