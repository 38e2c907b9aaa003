/- Plain numbers: 4 and 8 bytes, the highest first; what they make together. -/
import Derived.Test.YtbfepfpocgijgaaDoorCrc
namespace Go.Proofs.YtbfepfpocgijgaaDoor
/-- the number that bytes make. -/
def joinTo (n : Nat) (l : List Nat) : Nat := l.foldl (fun n x => n * 256 % 18446744073709551616 + x) n
def be4 (n : Nat) : List Nat := [n / 16777216 % 256, n / 65536 % 256, n / 256 % 256, n % 256]
def be8 (n : Nat) : List Nat := [n / 72057594037927936 % 256, n / 281474976710656 % 256, n / 1099511627776 % 256, n / 4294967296 % 256, n / 16777216 % 256, n / 65536 % 256, n / 256 % 256, n % 256]
theorem be4_lt (n : Nat) : ∀ x ∈ be4 n, x < 256 := by intro x hx; simp only [be4, List.mem_cons, List.not_mem_nil, or_false] at hx; omega
theorem be8_lt (n : Nat) : ∀ x ∈ be8 n, x < 256 := by intro x hx; simp only [be8, List.mem_cons, List.not_mem_nil, or_false] at hx; omega
theorem join_be4 {n : Nat} (h : n < 4294967296) : joinTo 0 (be4 n) = n := by simp only [joinTo, be4, List.foldl]; omega
theorem join_be8 {n : Nat} (h : n < 18446744073709551616) : joinTo 0 (be8 n) = n := by simp only [joinTo, be8, List.foldl]; omega
theorem be4_join {a b c d : Nat} (ha : a < 256) (hb : b < 256) (hc : c < 256) (hd : d < 256) : be4 (joinTo 0 [a, b, c, d]) = [a, b, c, d] := by
  simp only [joinTo, be4, List.foldl, List.cons.injEq, and_true]; omega
theorem be8_join {a b c d e f g h : Nat} (ha : a < 256) (hb : b < 256) (hc : c < 256) (hd : d < 256) (he : e < 256) (hf : f < 256) (hg : g < 256) (hh : h < 256) : be8 (joinTo 0 [a, b, c, d, e, f, g, h]) = [a, b, c, d, e, f, g, h] := by
  simp only [joinTo, be8, List.foldl, List.cons.injEq, and_true]; omega
theorem join_lt {l : List Nat} (hl : ∀ x ∈ l, x < 256) : joinTo 0 l < 18446744073709551616 := by
  have : ∀ (l : List Nat) (n : Nat), (∀ x ∈ l, x < 256) → n < 18446744073709551616 → joinTo n l < 18446744073709551616 := by
    intro l
    induction l with
    | nil => intro n _ h; exact h
    | cons x l ih => intro n hx h; exact ih _ (fun y hy => hx y (by simp [hy])) (by have := hx x (by simp); show n * 256 % 18446744073709551616 + x < _; omega)
  exact this l 0 hl (by decide)
end Go.Proofs.YtbfepfpocgijgaaDoor
