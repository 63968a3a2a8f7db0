/-
  SHA-256 in plain numbers: a word's operations, the schedule, a round, a block's step, what stands behind a text, the digest, digits. Plain mathematics: nothing of the program's dump is read here.
-/
import Derived.WalkKit
namespace Go.Proofs.YtecamiefpdkjoaaDoor.Dg
set_option maxRecDepth 20000

/-- A text's bytes; a text of bytes. -/
def L (s : ByteArray) : List UInt8 := s.data.toList
def bs (l : List UInt8) : ByteArray := ⟨l.toArray⟩
theorem L_bs (l : List UInt8) : L (bs l) = l := rfl
theorem bs_L (s : ByteArray) : bs (L s) = s := by obtain ⟨⟨l⟩⟩ := s; rfl
theorem L_size (s : ByteArray) : (L s).length = s.size := by obtain ⟨⟨l⟩⟩ := s; rfl
theorem bs_size (l : List UInt8) : (bs l).size = l.length := rfl
theorem L_get (s : ByteArray) (k : Nat) (h : k < s.size) : (L s)[k]? = some s[k] := by
  rw [List.getElem?_eq_getElem (by rw [L_size]; exact h)]; rfl
theorem L_append (s t : ByteArray) : L (s ++ t) = L s ++ L t := by
  show (s ++ t).data.toList = _
  rw [ByteArray.data_append, Array.toList_append]; rfl
theorem L_extract (s : ByteArray) (i j : Nat) : L (s.extract i j) = ((L s).take j).drop i := by
  show (s.extract i j).data.toList = _
  rw [ByteArray.data_extract, Array.toList_extract, List.extract_eq_take_drop, List.drop_take]; rfl
theorem eq_of_L {s t : ByteArray} (h : L s = L t) : s = t := by rw [← bs_L s, ← bs_L t, h]
theorem byte_of (m : Nat) (h : m < 256) : (UInt8.ofNat m).toNat = m := by rw [UInt8.toNat_ofNat']; omega

/-- A word's operations. -/
def ad (a b : Nat) : Nat := (a + b) % 4294967296
def xo (a b : Nat) : Nat := (a % 4294967296) ^^^ (b % 4294967296)
def an (a b : Nat) : Nat := (a % 4294967296) &&& (b % 4294967296)
def ors (a b : Nat) : Nat := (a % 4294967296) ||| (b % 4294967296)
def no (a : Nat) : Nat := 4294967295 ^^^ (a % 4294967296)
def sr (a n : Nat) : Nat := a / 2 ^ n
def sl (a n : Nat) : Nat := a * 2 ^ n % 4294967296
def rot (a n : Nat) : Nat := ors (sl a (32 - n)) (sr a n)
theorem ad_lt (a b : Nat) : ad a b < 4294967296 := by unfold ad; omega
theorem xo_lt (a b : Nat) : xo a b < 4294967296 := Nat.xor_lt_two_pow (n := 32) (Nat.mod_lt _ (by decide)) (Nat.mod_lt _ (by decide))
theorem ors_lt (a b : Nat) : ors a b < 4294967296 := Nat.or_lt_two_pow (n := 32) (Nat.mod_lt _ (by decide)) (Nat.mod_lt _ (by decide))
theorem an_lt (a b : Nat) : an a b < 4294967296 := Nat.and_lt_two_pow (n := 32) _ (Nat.mod_lt _ (by decide))
theorem no_lt (a : Nat) : no a < 4294967296 := Nat.xor_lt_two_pow (n := 32) (by decide) (Nat.mod_lt _ (by decide))
theorem rot_lt (a n : Nat) : rot a n < 4294967296 := ors_lt _ _
theorem ors_comm (a b : Nat) : ors a b = ors b a := Nat.or_comm _ _
theorem ad_comm (a b : Nat) : ad a b = ad b a := by unfold ad; rw [Nat.add_comm]
theorem ad_assoc (a b c : Nat) : ad (ad a b) c = ad a (ad b c) := by unfold ad; omega

/-- A block's words. -/
def wordB (b : List Nat) (i : Nat) : Nat := ors (ors (ors (sl (b.getD (4 * i) 0) 24) (sl (b.getD (4 * i + 1) 0) 16)) (sl (b.getD (4 * i + 2) 0) 8)) (b.getD (4 * i + 3) 0)
def lowS (x : Nat) : Nat := xo (xo (rot x 7) (rot x 18)) (sr x 3)
def highS (x : Nat) : Nat := xo (xo (rot x 17) (rot x 19)) (sr x 10)
def mixS (l : List Nat) (i : Nat) : Nat := ad (ad (ad (l.getD (i - 16) 0) (lowS (l.getD (i - 15) 0))) (l.getD (i - 7) 0)) (highS (l.getD (i - 2) 0))
def sch (b : List Nat) : Nat → List Nat
  | 0 => []
  | n + 1 => sch b n ++ [if n < 16 then wordB b n else mixS (sch b n) n]
theorem sch_length (b : List Nat) (n : Nat) : (sch b n).length = n := by
  induction n with
  | zero => rfl
  | succ n ih => unfold sch; rw [List.length_append, ih]; rfl

/-- A round. -/
def choS (e f g : Nat) : Nat := xo (an e f) (an (no e) g)
def mostS (a b c : Nat) : Nat := xo (xo (an a b) (an a c)) (an b c)
def bigE (e : Nat) : Nat := xo (xo (rot e 6) (rot e 11)) (rot e 25)
def bigA (a : Nat) : Nat := xo (xo (rot a 2) (rot a 13)) (rot a 22)
structure W8 where
  a : Nat
  b : Nat
  c : Nat
  d : Nat
  e : Nat
  f : Nat
  g : Nat
  h : Nat
def xR (v : W8) (word : Nat) : Nat := ad (ad (ad v.h (bigE v.e)) (choS v.e v.f v.g)) word
def yR (v : W8) : Nat := ad (bigA v.a) (mostS v.a v.b v.c)
def roundR (v : W8) (word : Nat) : W8 := ⟨ad (xR v word) (yR v), v.a, v.b, v.c, ad v.d (xR v word), v.e, v.f, v.g⟩
def W8.list (v : W8) : List Nat := [v.a, v.b, v.c, v.d, v.e, v.f, v.g, v.h]
def addW (v h : W8) : W8 := ⟨ad v.a h.a, ad v.b h.b, ad v.c h.c, ad v.d h.d, ad v.e h.e, ad v.f h.f, ad v.g h.g, ad v.h h.h⟩
/-- The rounds over words and constants. -/
def roundsR (v : W8) (w k : List Nat) : Nat → W8
  | 0 => v
  | n + 1 => roundR (roundsR v w k n) (ad (k.getD n 0) (w.getD n 0))
def blockK (k : List Nat) (h : W8) (b : List Nat) : W8 := addW (roundsR h (sch b 64) k 64) h
def firstN : W8 := ⟨1779033703, 3144134277, 1013904242, 2773480762, 1359893119, 2600822924, 528734635, 1541459225⟩
def roundsN : List Nat := [1116352408, 1899447441, 3049323471, 3921009573, 961987163, 1508970993, 2453635748, 2870763221, 3624381080, 310598401, 607225278, 1426881987, 1925078388, 2162078206, 2614888103, 3248222580, 3835390401, 4022224774, 264347078, 604807628, 770255983, 1249150122, 1555081692, 1996064986, 2554220882, 2821834349, 2952996808, 3210313671, 3336571891, 3584528711, 113926993, 338241895, 666307205, 773529912, 1294757372, 1396182291, 1695183700, 1986661051, 2177026350, 2456956037, 2730485921, 2820302411, 3259730800, 3345764771, 3516065817, 3600352804, 4094571909, 275423344, 430227734, 506948616, 659060556, 883997877, 958139571, 1322822218, 1537002063, 1747873779, 1955562222, 2024104815, 2227730452, 2361852424, 2428436474, 2756734187, 3204031479, 3329325298]
def blockN (h : W8) (b : List Nat) : W8 := blockK roundsN h b

end Go.Proofs.YtecamiefpdkjoaaDoor.Dg
