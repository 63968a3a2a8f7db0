/-
  The document's own constants: a product's two halves, a root bit by bit, the primes so far. Plain mathematics.
-/
import Derived.Test.YtecamiefpdkjoaaDoorDgPlainB
namespace Go.Proofs.YtecamiefpdkjoaaDoor.Dg
set_option maxRecDepth 20000

/-- A long word's operations. -/
def ad6 (a b : Nat) : Nat := (a + b) % 18446744073709551616
def mu6 (a b : Nat) : Nat := a * b % 18446744073709551616
def or6 (a b : Nat) : Nat := (a % 18446744073709551616) ||| (b % 18446744073709551616)
def lo6 (a : Nat) : Nat := a % 4294967296
def hi6 (a : Nat) : Nat := a / 4294967296
def up6 (a : Nat) : Nat := a * 4294967296 % 18446744073709551616

/-- A product's two halves, as they are reckoned. -/
def midT (a b : Nat) : Nat := ad6 (ad6 (hi6 (mu6 (lo6 a) (lo6 b))) (lo6 (mu6 (lo6 a) (hi6 b)))) (lo6 (mu6 (hi6 a) (lo6 b)))
def highT (a b : Nat) : Nat := ad6 (ad6 (ad6 (mu6 (hi6 a) (hi6 b)) (hi6 (mu6 (lo6 a) (hi6 b)))) (hi6 (mu6 (hi6 a) (lo6 b)))) (hi6 (midT a b))
def lowT (a b : Nat) : Nat := or6 (lo6 (mu6 (lo6 a) (lo6 b))) (up6 (midT a b))

/-- A root, bit by bit. -/
def sqBit (v r bit : Nat) : Nat := if highT (or6 r (2 ^ bit)) (or6 r (2 ^ bit)) < v ∨ (highT (or6 r (2 ^ bit)) (or6 r (2 ^ bit)) = v ∧ lowT (or6 r (2 ^ bit)) (or6 r (2 ^ bit)) = 0) then or6 r (2 ^ bit) else r
def sqN (v : Nat) : Nat → Nat
  | 0 => 0
  | k + 1 => sqBit v (sqN v k) (36 - k)
def squareN (v : Nat) : Nat := sqN v 37 % 4294967296
def topC (x : Nat) : Nat := ad6 (highT (lowT x x) x) (lowT (highT x x) x)
def cuBit (v r bit : Nat) : Nat := if topC (or6 r (2 ^ bit)) < up6 v ∨ (topC (or6 r (2 ^ bit)) = up6 v ∧ lowT (lowT (or6 r (2 ^ bit)) (or6 r (2 ^ bit))) (or6 r (2 ^ bit)) = 0) then or6 r (2 ^ bit) else r
def cuN (v : Nat) : Nat → Nat
  | 0 => 0
  | k + 1 => cuBit v (cuN v k) (35 - k)
def cubeN (v : Nat) : Nat := cuN v 36 % 4294967296

/-- The primes below k + 2. -/
def isB (l : List Nat) (v : Nat) : Bool := l.all fun p => v % p != 0
def prN : Nat → List Nat
  | 0 => []
  | k + 1 => if isB (prN k) (k + 2) then prN k ++ [k + 2] else prN k
theorem prN_mono (k j : Nat) : (prN k).length ≤ (prN (k + j)).length := by
  induction j with
  | zero => exact Nat.le_refl _
  | succ j ih =>
    refine Nat.le_trans ih ?_
    show (prN (k + j)).length ≤ (if isB (prN (k + j)) (k + j + 2) then prN (k + j) ++ [k + j + 2] else prN (k + j)).length
    split
    · rw [List.length_append]; omega
    · exact Nat.le_refl _
theorem pr17 : (prN 17).length = 7 := by decide +kernel
theorem pr18 : (prN 18).length = 8 := by decide +kernel
theorem pr309 : (prN 309).length = 63 := by decide +kernel
theorem pr310 : (prN 310).length = 64 := by decide +kernel
theorem prN_pos (k : Nat) : ∀ p ∈ prN k, 2 ≤ p ∧ p < k + 2 := by
  induction k with
  | zero => intro p hp; cases hp
  | succ k ih =>
    intro p hp
    unfold prN at hp
    split at hp
    · rcases List.mem_append.1 hp with h | h
      · have := ih p h; omega
      · have : p = k + 2 := by simpa using h
        omega
    · have := ih p hp; omega
theorem start_all : (prN 18).map squareN = firstN.list := by decide +kernel
theorem constants_all : (prN 310).map cubeN = roundsN := by decide +kernel

end Go.Proofs.YtecamiefpdkjoaaDoor.Dg
