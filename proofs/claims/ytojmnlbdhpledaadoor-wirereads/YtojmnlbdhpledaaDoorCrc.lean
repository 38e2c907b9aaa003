/- Plain numbers: the sum by halves of bytes, the sum bit by bit, that they are one, and that a step loses nothing. Plain numbers: 4 and 8 bytes, the highest first; what they make together. -/
import Derived.Laws.BitsAllLaws
namespace Go.Proofs.YtojmnlbdhpledaaDoor
namespace Sum

def halves : List Nat := [0x00000000, 0x105ec76f, 0x20bd8ede, 0x30e349b1, 0x417b1dbc, 0x5125dad3, 0x61c69362, 0x7198540d,
  0x82f63b78, 0x92a8fc17, 0xa24bb5a6, 0xb21572c9, 0xc38d26c4, 0xd3d3e1ab, 0xe330a81a, 0xf36e6f75]
/-- four steps at once. -/
def half (s : Nat) : Nat := (s / 16) ^^^ halves.getD (s % 16) 0
def byte (s x : Nat) : Nat := half (half (s ^^^ x))
def run (s : Nat) (l : List Nat) : Nat := l.foldl byte s
/-- the sum of bytes. -/
def crc (l : List Nat) : Nat := 4294967295 ^^^ run 4294967295 l

theorem halves_lt (k : Nat) : halves.getD k 0 < 4294967296 := by
  by_cases h : k < 16
  · have : ∀ k, k < 16 → halves.getD k 0 < 4294967296 := by decide
    exact this k h
  · rw [List.getD_eq_getElem?_getD, List.getElem?_eq_none (by simp [halves]; omega)]; decide
theorem xor_lt {a b : Nat} (ha : a < 4294967296) (hb : b < 4294967296) : a ^^^ b < 4294967296 := Nat.xor_lt_two_pow (n := 32) ha hb
theorem half_lt {s : Nat} (hs : s < 4294967296) : half s < 4294967296 := xor_lt (by omega) (halves_lt _)
theorem byte_lt {s x : Nat} (hs : s < 4294967296) (hx : x < 256) : byte s x < 4294967296 := half_lt (half_lt (xor_lt hs (by omega)))
theorem run_lt (l : List Nat) : ∀ {s : Nat}, s < 4294967296 → (∀ x ∈ l, x < 256) → run s l < 4294967296 := by
  induction l with
  | nil => intro s hs _; exact hs
  | cons x l ih => intro s hs hx; exact ih (byte_lt hs (hx x (by simp))) (fun y hy => hx y (by simp [hy]))
theorem crc_lt {l : List Nat} (h : ∀ x ∈ l, x < 256) : crc l < 4294967296 := xor_lt (by decide) (run_lt l (by decide) h)

theorem xor_cancel {a b c : Nat} (h : a ^^^ c = b ^^^ c) : a = b := by
  have := congrArg (· ^^^ c) h
  simpa [Nat.xor_assoc] using this
theorem xor_cancel_left {a b c : Nat} (h : c ^^^ a = c ^^^ b) : a = b := by
  rw [Nat.xor_comm c a, Nat.xor_comm c b] at h; exact xor_cancel h

theorem half_inj {a b : Nat} (ha : a < 4294967296) (hb : b < 4294967296) (h : half a = half b) : a = b := by
  have top : ∀ x, x < 4294967296 → half x / 268435456 = halves.getD (x % 16) 0 / 268435456 := by
    intro x hx
    unfold half
    have e := Nat.xor_div_two_pow (a := x / 16) (b := halves.getD (x % 16) 0) (n := 28)
    have z : x / 16 / 268435456 = 0 := by omega
    simp only [show (2 : Nat) ^ 28 = 268435456 from rfl] at e
    rw [e, z, Nat.zero_xor]
  have t := (top a ha).symm.trans ((congrArg (· / 268435456) h).trans (top b hb))
  have dec : ∀ i, i < 16 → ∀ j, j < 16 → halves.getD i 0 / 268435456 = halves.getD j 0 / 268435456 → i = j := by decide
  have lo := dec _ (Nat.mod_lt a (by decide)) _ (Nat.mod_lt b (by decide)) t
  unfold half at h
  rw [lo] at h
  have hi := xor_cancel h
  omega

theorem byte_inj {a b x y : Nat} (ha : a < 4294967296) (hb : b < 4294967296) (hx : x < 256) (hy : y < 256) (h : byte a x = byte b y) : a ^^^ x = b ^^^ y :=
  half_inj (xor_lt ha (by omega)) (xor_lt hb (by omega)) (half_inj (half_lt (xor_lt ha (by omega))) (half_lt (xor_lt hb (by omega))) h)
theorem run_inj (l : List Nat) : ∀ {a b : Nat}, a < 4294967296 → b < 4294967296 → (∀ x ∈ l, x < 256) → run a l = run b l → a = b := by
  induction l with
  | nil => intro a b _ _ _ h; exact h
  | cons x l ih =>
    intro a b ha hb hx h
    have e := ih (byte_lt ha (hx x (by simp))) (byte_lt hb (hx x (by simp))) (fun y hy => hx y (by simp [hy])) h
    exact xor_cancel (byte_inj ha hb (hx x (by simp)) (hx x (by simp)) e)
theorem run_append (s : Nat) (l m : List Nat) : run s (l ++ m) = run (run s l) m := List.foldl_append
/-- a byte that is another one makes another sum. -/
theorem crc_turned {l m : List Nat} {x y : Nat} (hl : ∀ z ∈ l, z < 256) (hm : ∀ z ∈ m, z < 256) (hx : x < 256) (hy : y < 256) (h : crc (l ++ x :: m) = crc (l ++ y :: m)) : x = y := by
  have e := xor_cancel_left h
  rw [run_append, run_append] at e
  have s := run_lt l (s := 4294967295) (by decide) hl
  exact xor_cancel_left (byte_inj s s hx hy (run_inj m (byte_lt s hx) (byte_lt s hy) hm e))

/-- one step of the turned polynomial. -/
def bit (x : Nat) : Nat := if x % 2 = 1 then x / 2 ^^^ 0x82F63B78 else x / 2
theorem bit_xor (a b : Nat) : bit (a ^^^ b) = bit a ^^^ bit b := by
  have d := Nat.xor_div_two_pow (a := a) (b := b) (n := 1)
  have m := Nat.xor_mod_two_pow (a := a) (b := b) (n := 1)
  simp only [show (2 : Nat) ^ 1 = 2 from rfl] at d m
  unfold bit
  rw [m, d]
  rcases Nat.mod_two_eq_zero_or_one a with p | p <;> rcases Nat.mod_two_eq_zero_or_one b with q | q <;> rw [p, q]
  · rfl
  · simp [Nat.xor_assoc]
  · simp only [show (1 ^^^ 0 : Nat) = 1 from rfl]; simp only [if_true]; rw [if_neg (by decide), Nat.xor_assoc, Nat.xor_comm (b / 2), ← Nat.xor_assoc]
  · simp only [show (1 ^^^ 1 : Nat) = 0 from rfl, if_true]; rw [if_neg (by decide)]
    rw [Nat.xor_assoc, ← Nat.xor_assoc 2197175160, Nat.xor_comm 2197175160 (b / 2), Nat.xor_assoc (b / 2), Nat.xor_self, Nat.xor_zero]
theorem bit_even (q : Nat) : bit (2 * q) = q := by unfold bit; rw [if_neg (by omega)]; omega
theorem four_bits (s : Nat) : bit (bit (bit (bit s))) = half s := by
  have e : s = (2 * (2 * (2 * (2 * (s / 16))))) ^^^ (s % 16) := by
    have h : 2 * (2 * (2 * (2 * (s / 16)))) = 2 ^ 4 * (s / 16) := by omega
    have := Nat.two_pow_add_eq_or_of_lt (i := 4) (b := s % 16) (Nat.mod_lt _ (by decide)) (s / 16)
    have x : 2 ^ 4 * (s / 16) ^^^ s % 16 = 2 ^ 4 * (s / 16) + s % 16 := by
      rw [Nat.two_pow_add_eq_or_of_lt (i := 4) (Nat.mod_lt _ (by decide))]
      apply Nat.eq_of_testBit_eq
      intro i
      simp only [Nat.testBit_xor, Nat.testBit_or]
      by_cases hi : i < 4
      · rw [Nat.testBit_two_pow_mul]; simp [show ¬ 4 ≤ i by omega]
      · rw [show (16 : Nat) = 2 ^ 4 from rfl, Nat.testBit_mod_two_pow]; simp [hi]
    rw [h, x]; omega
  have low : ∀ r, r < 16 → bit (bit (bit (bit r))) = halves.getD r 0 := by decide
  conv => lhs; rw [e]
  rw [bit_xor, bit_xor, bit_xor, bit_xor, bit_even, bit_even, bit_even, bit_even, low _ (Nat.mod_lt _ (by decide))]
  rfl
theorem eight_bits (s x : Nat) : bit (bit (bit (bit (bit (bit (bit (bit (s ^^^ x)))))))) = byte s x := by
  rw [four_bits, four_bits]; rfl
theorem known : crc [49, 50, 51, 52, 53, 54, 55, 56, 57] = 3808858755 := by decide
end Sum
end Go.Proofs.YtojmnlbdhpledaaDoor
namespace Go.Proofs.YtojmnlbdhpledaaDoor
/-- the number that bytes make. -/
def joinTo (n : Nat) (l : List Nat) : Nat := l.foldl (fun n x => n * 256 % 18446744073709551616 + x) n
def be4 (n : Nat) : List Nat := [n / 16777216 % 256, n / 65536 % 256, n / 256 % 256, n % 256]
def be8 (n : Nat) : List Nat := [n / 72057594037927936 % 256, n / 281474976710656 % 256, n / 1099511627776 % 256, n / 4294967296 % 256, n / 16777216 % 256, n / 65536 % 256, n / 256 % 256, n % 256]
theorem be4_lt (n : Nat) : ∀ x ∈ be4 n, x < 256 := by intro x hx; simp only [be4, List.mem_cons, List.not_mem_nil, or_false] at hx; omega
theorem be8_lt (n : Nat) : ∀ x ∈ be8 n, x < 256 := by intro x hx; simp only [be8, List.mem_cons, List.not_mem_nil, or_false] at hx; omega
theorem join_be4 {n : Nat} (h : n < 4294967296) : joinTo 0 (be4 n) = n := by simp only [joinTo, be4, List.foldl]; omega
theorem join_be8 {n : Nat} (h : n < 18446744073709551616) : joinTo 0 (be8 n) = n := by simp only [joinTo, be8, List.foldl]; omega
theorem be4_join {a b c d : Nat} (ha : a < 256) (hb : b < 256) (hc : c < 256) (hd : d < 256) : be4 (joinTo 0 [a, b, c, d]) = [a, b, c, d] := by
  simp only [joinTo, be4, List.foldl, List.cons.injEq, and_true]; omega
theorem be8_join {a b c d e f g h : Nat} (ha : a < 256) (hb : b < 256) (hc : c < 256) (hd : d < 256) (he : e < 256) (hf : f < 256) (hg : g < 256) (hh : h < 256) : be8 (joinTo 0 [a, b, c, d, e, f, g, h]) = [a, b, c, d, e, f, g, h] := by
  simp only [joinTo, be8, List.foldl, List.cons.injEq, and_true]; omega
theorem join_lt {l : List Nat} (hl : ∀ x ∈ l, x < 256) : joinTo 0 l < 18446744073709551616 := by
  have : ∀ (l : List Nat) (n : Nat), (∀ x ∈ l, x < 256) → n < 18446744073709551616 → joinTo n l < 18446744073709551616 := by
    intro l
    induction l with
    | nil => intro n _ h; exact h
    | cons x l ih => intro n hx h; exact ih _ (fun y hy => hx y (by simp [hy])) (by have := hx x (by simp); show n * 256 % 18446744073709551616 + x < _; omega)
  exact this l 0 hl (by decide)
end Go.Proofs.YtojmnlbdhpledaaDoor
