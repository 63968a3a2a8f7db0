/-
  A disk that is up, without a fuse: what is seen of it behind each call.
-/
import Derived.Test.YtamaijolggdakaaAsk
namespace Go.Proofs.Ytamaijolggdakaa
open Go.RowKit

def St.seen (S : St) : List (List UInt8) := latest S.ps S.ws
structure Calm (S : St) (lim n m : Nat) : Prop where
  lim : S.lim = lim
  len : S.ps.length = n
  few : S.ws.length ≤ m
  fuse : S.fuse = -1
  up : S.down = false
theorem getD_app {α : Type} (l : List α) (x d : α) {i : Nat} (h : i < l.length) : (l ++ [x]).getD i d = l.getD i d := by
  rw [List.getD_eq_getElem?_getD, List.getElem?_append_left h, List.getD_eq_getElem?_getD]
theorem getD_last {α : Type} (l : List α) (x d : α) : (l ++ [x]).getD l.length d = x := by
  rw [List.getD_eq_getElem?_getD, List.getElem?_append_right (Nat.le_refl _), Nat.sub_self]; rfl
theorem latestN_app (ps : List (List UInt8)) (ws : List (Nat × List UInt8)) (x : Nat × List UInt8) : ∀ n, n ≤ ws.length → latestN ps (ws ++ [x]) n = latestN ps ws n
  | 0, _ => rfl
  | n + 1, h => by rw [latestN, latestN, latestN_app ps ws x n (by omega), getD_app ws x _ (by omega)]
theorem latest_snoc (ps : List (List UInt8)) (ws : List (Nat × List UInt8)) (x : Nat × List UInt8) : latest ps (ws ++ [x]) = (latest ps ws).set x.1 x.2 := by
  unfold latest
  rw [List.length_append, List.length_singleton, latestN, latestN_app ps ws x _ (Nat.le_refl _), getD_last]
theorem latest_nil (ps : List (List UInt8)) : latest ps [] = ps := rfl
theorem seen_length (S : St) : S.seen.length = S.ps.length := latest_length _ _

theorem Calm.write {S : St} {lim n m : Nat} (h : Calm S lim n m) {i : Nat} (hi : i < n) {d : List UInt8} (hd : d.length = 256) :
    ∃ S', S.write (i : Int) d = (0, S') ∧ Calm S' lim n (m + 1) ∧ S'.seen = S.seen.set i d ∧ S'.ps = S.ps ∧ S'.ws = S.ws ++ [(i, d)] := by
  refine ⟨⟨S.lim, S.ps, S.ws ++ [(i, d)], -1, false⟩, ?_, ⟨h.lim, h.len, ?_, rfl, rfl⟩, latest_snoc _ _ _, rfl, rfl⟩
  · unfold St.write
    rw [if_neg (by rw [h.up]; decide), if_neg (by rw [hd]; decide), if_neg (by have := h.len; omega), if_neg (by rw [h.fuse]; decide), Int.toNat_natCast]
    unfold St.burn
    rw [if_neg (by rw [h.fuse]; decide), h.fuse, h.up]
  · have := h.few
    show (S.ws ++ [(i, d)]).length ≤ m + 1
    rw [List.length_append, List.length_singleton]; omega
theorem Calm.writeOut {S : St} {lim n m : Nat} (h : Calm S lim n m) {i : Nat} (hi : n ≤ i) {d : List UInt8} (hd : d.length = 256) : S.write (i : Int) d = (4, S) := by
  unfold St.write
  rw [if_neg (by rw [h.up]; decide), if_neg (by rw [hd]; decide), if_pos (by have := h.len; omega)]
theorem Calm.sync {S : St} {lim n m : Nat} (h : Calm S lim n m) : ∃ S', S.sync = (0, S') ∧ Calm S' lim n 0 ∧ S'.seen = S.seen ∧ S'.ps = S.seen ∧ S'.ws = [] := by
  refine ⟨⟨S.lim, S.seen, [], -1, false⟩, ?_, ⟨h.lim, by rw [seen_length, h.len], Nat.le_refl _, rfl, rfl⟩, rfl, rfl, rfl⟩
  unfold St.sync
  rw [if_neg (by rw [h.up]; decide), if_neg (by rw [h.fuse]; decide)]
  unfold St.burn
  rw [if_neg (by rw [h.fuse]; decide), h.fuse, h.up]
  rfl
theorem Calm.read {S : St} {lim n m : Nat} (h : Calm S lim n m) {i : Nat} (hi : i < n) : S.read (i : Int) = (0, S.seen.getD i []) := by
  unfold St.read
  rw [if_neg (by rw [h.up]; decide), if_neg (by have := h.len; omega), Int.toNat_natCast]
  rfl
theorem Calm.mono {S : St} {lim n m k : Nat} (h : Calm S lim n m) (hk : m ≤ k) : Calm S lim n k := ⟨h.lim, h.len, Nat.le_trans h.few hk, h.fuse, h.up⟩

/-- A block beside the disk stays. -/
theorem Row.beside {w w' : World} {F F' : Nat → Prop} {g : Nat} {cs : Array Value} {t : TypeId} (h : Row w g cs t) (k : Step F F' w w') (hg : ¬ F g) : Row w' g cs t ∧ ¬ F' g :=
  ⟨h.of (k.block g h.lt hg), fun h1 => (k.foot g h1).elim hg (fun h2 => absurd h.lt (Nat.not_lt.2 h2))⟩
theorem fills_getD (l : List UInt8) {i : Nat} (h : i < l.length) : (l.map fillL).getD i [] = fillL (l.getD i 0) := by
  rw [List.getD_eq_getElem?_getD, List.getElem?_map, List.getD_eq_getElem?_getD, List.getElem?_eq_getElem h]; rfl
theorem info67 : (Try.prog.info? 67).map (fun i => (i.zero, i.size, i.bytes)) = some (some (.agg (cellsL [0, 0, 0]).toArray), 3, 3) := by kernel_rfl
theorem info60 : (Try.prog.info? 60).map (fun i => (i.zero, i.size, i.bytes)) = some (some (.agg (cellsL [0, 0, 0, 0]).toArray), 4, 4) := by kernel_rfl
theorem Row.byte {w : World} {g : Nat} {l : List UInt8} {t : TypeId} (h : Row w g (cellsL l).toArray t) {i : Nat} (hi : i < l.length) : w.cell? ⟨g, i, none⟩ = some (.int .u8 ((l.getD i 0).toNat : Int)) := by
  rw [h.cell, List.getElem?_toArray]
  unfold cellsL
  rw [List.getElem?_map, List.getElem?_eq_getElem hi, List.getD_eq_getElem?_getD, List.getElem?_eq_getElem hi]; rfl
theorem Row.setByte {w : World} {g : Nat} {l : List UInt8} {t : TypeId} (h : Row w g (cellsL l).toArray t) (i : Nat) (v : UInt8) : Row (w.setCell ⟨g, i, none⟩ (.int .u8 (v.toNat : Int))) g (cellsL (l.set i v)).toArray t := by
  have := h.set i (.int .u8 (v.toNat : Int))
  rw [List.setIfInBounds_toArray] at this
  unfold cellsL at this ⊢
  rw [List.map_set]
  exact this

end Go.Proofs.Ytamaijolggdakaa
