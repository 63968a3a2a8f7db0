/-
  What DigestSteps returns: true, for every text, where the tables lie as their initialisers lay them.
-/
import Derived.Test.YtecamiefpdkjoaaDoorDgOf
namespace Go.Proofs.YtecamiefpdkjoaaDoor.Dg
open Go.RowKit
set_option maxRecDepth 20000

/-- A row of bytes that is filled one by one. -/
theorem cb_push {w : World} {g k : Nat} {t : TypeId} {l : List Nat} (R : Row w g (cb (pad64 l)) t) (hk : l.length = k) (h : k < 64) (x : Nat) : Row (w.setCell ⟨g, k, none⟩ (.int .u8 (x : Int))) g (cb (pad64 (l ++ [x]))) t := by
  subst hk
  have h1 := R.setCell l.length (.int .u8 (x : Int))
  rw [cb_set, pad64_set _ _ h] at h1
  exact h1
theorem nats_step (l : List UInt8) (k : Nat) (c : UInt8) (h : l[k]? = some c) : nats (l.take (k + 1)) = nats (l.take k) ++ [c.toNat] := by
  rw [List.take_add_one, h, nats_append]; rfl
theorem block_of (t : ByteArray) (q j : Nat) (h : q + j < t.size) : ((L t).drop q)[j]? = some t[q + j] := by
  rw [List.getElem?_drop]; exact L_get t (q + j) h
theorem putL_at (x j : Nat) (h : j < 4) : (putL x)[j]? = some (UInt8.ofNat (x / 2 ^ (24 - 8 * j) % 256)) := by
  have h8 : j = 0 ∨ j = 1 ∨ j = 2 ∨ j = 3 := by omega
  rcases h8 with rfl | rfl | rfl | rfl
  all_goals simp [putL]
theorem bytesL_at (l : List Nat) : ∀ (m j : Nat), m < l.length → j < 4 → (bytesL l)[4 * m + j]? = some (UInt8.ofNat (l.getD m 0 / 2 ^ (24 - 8 * j) % 256)) := by
  induction l with
  | nil => intro m j h; simp at h
  | cons v l ih =>
    intro m j hm hj
    show (putL v ++ bytesL l)[4 * m + j]? = _
    cases m with
    | zero => rw [List.getElem?_append_left (by show 4 * 0 + j < 4; omega), show 4 * 0 + j = j by omega, putL_at v j hj]; rfl
    | succ m =>
      rw [List.getElem?_append_right (by show 4 ≤ 4 * (m + 1) + j; omega), show (putL v).length = 4 from rfl, show 4 * (m + 1) + j - 4 = 4 * m + j by omega, ih m j (by simpa using hm) hj]
      rfl

theorem at_bytes {s : ByteArray} {l : List UInt8} (h : s = bs l) {k : Nat} (hk : k < s.size) {c : UInt8} (hc : l[k]? = some c) : s[k] = c := by
  subst h
  have h2 := L_get (bs l) k hk
  rw [L_bs, hc] at h2
  exact (Option.some.inj h2).symm

end Go.Proofs.YtecamiefpdkjoaaDoor.Dg
