/-
  Tries of pairs, said of lists: the nodes that pairs have, with the nibbles that lead to each, and what holds of them. Plain mathematics: nothing of the program's dump is read here.
-/
import Derived.Test.YtelaiblhnhbgiaaDoorNbComA
namespace Go.Proofs.YtelaiblhnhbgiaaDoor
set_option maxRecDepth 20000

abbrev Bt := List UInt8
abbrev Pr := Bt × Bt

/-- A node. -/
structure Nd where
  kind : Int
  path : Bt
  has : Bool
  val : Bt
  kids : List Int
deriving DecidableEq
abbrev NP := Nd × Bt

/-- Order of lists of bytes. -/
def ltL : Bt → Bt → Prop
  | _, [] => False
  | [], _ :: _ => True
  | a :: l, b :: m => a.toNat < b.toNat ∨ (a = b ∧ ltL l m)
theorem ltL_irrefl : ∀ l : Bt, ¬ ltL l l
  | [] => fun h => h
  | a :: l => fun h => by
    rcases h with h | ⟨_, h⟩
    · omega
    · exact ltL_irrefl l h
theorem ltL_trans : ∀ {a b c : Bt}, ltL a b → ltL b c → ltL a c
  | [], [], _, h, _ => h.elim
  | _ :: _, [], _, h, _ => h.elim
  | _, _ :: _, [], _, h => h.elim
  | [], _ :: _, _ :: _, _, _ => trivial
  | x :: a, y :: b, z :: c, h, k => by
    rcases h with h | ⟨rfl, h⟩
    · rcases k with k | ⟨rfl, k⟩
      · exact .inl (by omega)
      · exact .inl h
    · rcases k with k | ⟨rfl, k⟩
      · exact .inl k
      · exact .inr ⟨rfl, ltL_trans h k⟩
theorem ltL_append (p : Bt) (a b : Bt) : ltL (p ++ a) (p ++ b) ↔ ltL a b := by
  induction p with
  | nil => exact Iff.rfl
  | cons x p ih =>
    constructor
    · rintro (h | ⟨_, h⟩)
      · omega
      · exact ih.1 h
    · exact fun h => .inr ⟨rfl, ih.2 h⟩
theorem ltL_prefix (p : Bt) {x : Bt} (h : x ≠ []) : ltL p (p ++ x) := by
  have := (ltL_append p [] x).2 (by cases x with
    | nil => exact absurd rfl h
    | cons _ _ => trivial)
  simpa using this
theorem ltL_part {p a b : Bt} {x y : UInt8} (h : x.toNat < y.toNat) : ltL (p ++ x :: a) (p ++ y :: b) := (ltL_append p _ _).2 (.inl h)
/-- What lies between two lists that begin alike begins so too. -/
theorem ltL_between : ∀ (p : Bt) {a b c : Bt}, ltL a b → ltL b c → p <+: a → p <+: c → p <+: b
  | [], _, _, _, _, _, _, _ => List.nil_prefix
  | x :: p, a, b, c, h, k, ⟨a', ha⟩, ⟨c', hc⟩ => by
    subst ha hc
    cases b with
    | nil => exact h.elim
    | cons y b =>
      have hxy : x = y := by
        rcases h with h | ⟨h, _⟩
        · rcases k with k | ⟨k, _⟩
          · exact absurd h (by omega)
          · exact k.symm
        · exact h
      subst hxy
      have h' : ltL (p ++ a') b := h.elim (fun h => absurd h (by omega)) (·.2)
      have k' : ltL b (p ++ c') := k.elim (fun h => absurd h (by omega)) (·.2)
      obtain ⟨r, hr⟩ := ltL_between p h' k' ⟨_, rfl⟩ ⟨_, rfl⟩
      exact ⟨r, by rw [← hr]; rfl⟩
theorem comN_le (a b : Bt) : comN a b ≤ a.length ∧ comN a b ≤ b.length := ⟨(comN_facts a b).1, (comN_facts a b).2.1⟩
theorem comN_take (a b : Bt) : a.take (comN a b) = b.take (comN a b) := (comN_facts a b).2.2.1
/-- Behind what they have in common lists are at an end, or unlike. -/
theorem comN_rest : ∀ a b : Bt, comN (a.drop (comN a b)) (b.drop (comN a b)) = 0
  | [], _ => by simp [comN]
  | _ :: _, [] => by simp [comN]
  | x :: a, y :: b => by
    by_cases h : x = y
    · subst h
      have e : comN (x :: a) (x :: b) = comN a b + 1 := by show (if x = x then _ else _) = _; rw [if_pos rfl]
      rw [e]; exact comN_rest a b
    · have e : comN (x :: a) (y :: b) = 0 := by show (if x = y then _ else _) = _; rw [if_neg h]
      rw [e]; exact e

/-- The half of a pair's key at a place. -/
def nib (p : Pr) (at_ : Nat) : Nat := (p.1.getD at_ 0).toNat
def grp (l : List Pr) (at_ h : Nat) : List Pr := l.filter fun p => nib p at_ == h
def no16 : List Int := List.replicate 16 0
def leafN (p v : Bt) : Nd := ⟨1, p, true, v, no16⟩
def extN (p : Bt) (k : Int) : Nd := ⟨2, p, false, [], no16.set 0 k⟩
def brN (h : Bool) (v : Bt) (ks : List Int) : Nd := ⟨3, [], h, v, ks⟩

/-- A Branch's children up to a half: their numbers, their nodes. -/
def kidsW (G : List Pr → Nat → List NP) (gs : Nat → List Pr) (b : Nat) : Nat → List Int × List NP
  | 0 => (no16, [])
  | h + 1 =>
    let s := kidsW G gs b h
    if gs h = [] then s else (s.1.set h ((b + s.2.length : Nat) : Int), s.2 ++ G (gs h) (b + s.2.length))
/-- Has the first key ended? -/
def endsB (l : List Pr) (at_ : Nat) : Bool := match l with | [] => false | p :: _ => decide (p.1.length = at_)
def restL (l : List Pr) (at_ : Nat) : List Pr := if endsB l at_ then l.tail else l
def headV (l : List Pr) (at_ : Nat) : Bt := if endsB l at_ then (match l with | [] => [] | p :: _ => p.2) else []
def headP (l : List Pr) (n : Nat) : Bt := match l with | [] => [] | p :: _ => p.1.take n
def forkW (G : List Pr → Nat → List NP) (l : List Pr) (at_ b : Nat) : List NP :=
  let s := kidsW G (fun h => grp (restL l at_) at_ h) (b + 1) 16
  (brN (endsB l at_) (headV l at_) s.1, headP l at_) :: s.2
def lastL (l : List Pr) : Bt := match l.getLast? with | none => [] | some p => p.1
def headK (l : List Pr) : Bt := match l with | [] => [] | p :: _ => p.1
def headVal (l : List Pr) : Bt := match l with | [] => [] | p :: _ => p.2
def comG (l : List Pr) (n : Nat) : Nat := comN ((headK l).drop n) ((lastL l).drop n)
/-- The nodes of pairs, from a place on, numbered from b on, and the nibbles that lead to each. -/
def grow : Nat → List Pr → Nat → Nat → List NP
  | 0, _, _, _ => []
  | f + 1, l, n, b =>
    if l.length = 0 then []
    else if l.length = 1 then [(leafN ((headK l).drop n) (headVal l), (headK l).take n)]
    else if comG l n = 0 then forkW (fun g => grow f g (n + 1)) l n b
    else (extN (((headK l).drop n).take (comG l n)) ((b + 1 : Nat) : Int), (headK l).take n) :: forkW (fun g => grow f g (n + comG l n + 1)) l (n + comG l n) (b + 1)

end Go.Proofs.YtelaiblhnhbgiaaDoor
