/-
  What a pool holds, what of it is dirty, told rising.
-/
import Derived.Test.YtkcoclpbkealgaaDoorQBase
import Derived.Test.YtkcoclpbkealgaaDoorShelf
import Derived.Lib.SlKeysI
namespace Go.Proofs.YtkcoclpbkealgaaDoor
open Go.RowKit Go.Maps Go.Sort Go.Shelf
set_option maxRecDepth 20000

def intsL (l : List Nat) : List (List Value) := l.map fun n : Nat => [Value.int .i64 (n : Int)]
theorem intsL_length (l : List Nat) : (intsL l).length = l.length := by unfold intsL; rw [List.length_map]
theorem flat_ints (l : List Nat) : (intsL l).flatten = l.map fun n : Nat => Value.int .i64 (n : Int) := by
  induction l with
  | nil => rfl
  | cons a l ih => show [Value.int .i64 (a : Int)] ++ (intsL l).flatten = _; rw [ih]; rfl
theorem pl_of_owns {w w' : World} {B : Nat} {v : Value} {l : List Nat} (h : w'.ownsRow B 3 1 v l.length (l.map fun n : Nat => Value.int .i64 (n : Int))) (hB : w.heap.size ≤ B) : Pl w' (Fresh w) 3 1 v (intsL l) := by
  refine ⟨fun e he => ?_, ?_, fun g hg => Nat.le_trans hB (h.lt g hg).1⟩
  · unfold intsL at he; obtain ⟨n, _, rfl⟩ := List.mem_map.1 he; rfl
  · rw [intsL_length, flat_ints]; exact ownsRow_base_a h (Nat.zero_le _)

/-- The pages that have a frame: those that the map has. -/
theorem mem_held {fs : List Fm} {a : Nat} : a ∈ held fs ↔ ∃ i : Nat, (keys fs)[i]? = some (some a) := by
  unfold held
  rw [List.mem_filterMap]
  constructor
  · rintro ⟨o, ho, he⟩
    obtain ⟨i, hi⟩ := List.mem_iff_getElem?.1 ho
    exact ⟨i, by rw [hi]; simpa using he⟩
  · rintro ⟨i, hi⟩; exact ⟨some a, List.mem_of_getElem? hi, rfl⟩
theorem nodup_some : ∀ {ks : List (Option Nat)}, Apart ks → (ks.filterMap id).Nodup
  | [], _ => List.nodup_nil
  | none :: ks, h => by
    show (ks.filterMap id).Nodup
    exact nodup_some fun i j x hi hj => by have := h (i + 1) (j + 1) x hi hj; omega
  | some a :: ks, h => by
    show (a :: ks.filterMap id).Nodup
    refine List.nodup_cons.2 ⟨fun hm => ?_, nodup_some fun i j x hi hj => by have := h (i + 1) (j + 1) x hi hj; omega⟩
    obtain ⟨o, ho, he⟩ := List.mem_filterMap.1 hm
    obtain ⟨i, hi⟩ := List.mem_iff_getElem?.1 ho
    have := h 0 (i + 1) a rfl (by show ks[i]? = _; rw [hi]; simpa using he)
    omega
theorem sort_nat (l : List Nat) : (l.map fun n : Nat => (n : Int)).mergeSort (fun x y => decide (x ≤ y)) = (sorted l).map fun n : Nat => (n : Int) := by
  unfold sorted
  exact (List.map_mergeSort (fun a _ b _ => by simp)).symm
theorem sorted_length (l : List Nat) : (sorted l).length = l.length := by unfold sorted; rw [List.length_mergeSort]
theorem held_perm {w : World} {m b : Nat} {D : DataW Unit} {fs : List Fm} (h1 : w.ownsMap Tryd.prog 3 (plainElem Tryd.prog 3) b m D) (h2 : MapOf D (keys fs)) (hA : Apart (keys fs)) : ((held fs).map fun n : Nat => (n : Int)).Perm (intKeys D) := by
  refine CollectedI.perm (left := fun _ => false) ⟨?_, fun x => ?_⟩ h1 mapLaw Tryd.underlying3 (fun _ => rfl)
  · exact (nodup_some hA).map _ fun a b hab => by intro e; apply hab; exact Int.ofNat_inj.1 e
  · rw [(h2 x).1]
    simp only [List.mem_map, and_true]
    constructor
    · rintro ⟨a, ha, rfl⟩
      obtain ⟨i, hi⟩ := mem_held.1 ha
      rw [idx_eq hA hi rfl]; rfl
    · intro h
      cases h3 : idx x (keys fs) with
      | none => rw [h3] at h; cases h
      | some i => obtain ⟨a, ha, hx⟩ := idx_at h3; exact ⟨a, mem_held.2 ⟨i, ha⟩, hx⟩

theorem Tryd.sortsA (m : Nat) : AnyZI.SortsIn Tryd.prog Tryd.sortedA_ren Fence.wide m :=
  ⟨fun blk off cap ss W hH hblk hsz => callsIn_wide.2 (AnyM.slices_Sort_int Tryd.laysSlM5_f56 blk off cap ss W hH hblk hsz),
   fun p cap W => callsIn_wide.2 (AnyM.slices_Sort_int_none Tryd.laysSlM5_f56 p cap W)⟩
theorem keys_call (mb : Option Nat) (W : World) : Calls Tryd.prog 55 #[.map mb] W fun e w' => e = .returned (.func (.func 74) #[] #[.pointer (some ⟨W.heap.size, 0, none⟩)]) ∧ w' = W.alloc (.cells #[.map mb] 90) :=
  (callsIn_wide (n := 5)).1 (AnyZI.keys_in Tryd.keysA Fence.wide 5 trivial rfl mb W)
set_option maxHeartbeats 1000000 in
theorem sorted_call {b nn : Nat} {D0 : DataW Unit} {w : World} (hown : w.ownsMap Tryd.prog 3 (plainElem Tryd.prog 3) b nn D0) (hmax : Maps.size D0 ≤ maxLen) (hbytes : Maps.size D0 * 8 ≤ 140737488355328) :
    Calls Tryd.prog 54 #[.func (.func 74) #[] #[.pointer (some ⟨w.heap.size, 0, none⟩)]] (w.alloc (.cells #[.map (some b)] 90)) fun e w' => ∃ (v : Value) (ss : List Int), e = .returned v ∧ ss.Perm (intKeys D0) ∧
      w'.ownsRow (w.alloc (.cells #[.map (some b)] 90)).heap.size 3 1 v ss.length ((ss.mergeSort (fun x y => decide (x ≤ y))).map encZ) ∧ (v = .slice none 0 0 ↔ ss = []) ∧ Below (w.alloc (.cells #[.map (some b)] 90)).heap.size (w.alloc (.cells #[.map (some b)] 90)) w' := by
  have hbl := hown.lt
  have hseq : SeqGives Fence.wide 2 Tryd.prog 74 #[.pointer (some ⟨w.heap.size, 0, none⟩)] encZ (fun ss => ss.Perm (intKeys D0)) (Maps.size D0) (w.alloc (.cells #[.map (some b)] 90)) :=
    AnyZI.keys_gives (ρ := Tryd.keysA_ren) { Tryd.keysA with } Fence.wide _ trivial rfl (by omega) w.heap.size b nn D0 _ (by simp) (by simp) (by
      obtain ⟨es, clock, hb, Ft, hs, hD⟩ := hown
      exact ⟨es, clock, (Below.heap_alloc _ _ b hbl).trans hb, Ft, hs, hD⟩)
  exact (callsIn_wide (n := 5)).1 (AnyZI.sorted_in Tryd.sortedA Fence.wide 5 trivial trivial trivial trivial rfl (by omega) (Tryd.sortsA _) (enters_of Tryd.func56 (by kernel_rfl) rfl) 74 #[.pointer (some ⟨w.heap.size, 0, none⟩)] trivial (enters_of Tryd.func74 (by kernel_rfl) rfl) _ _ hmax hbytes _ hseq)

set_option maxHeartbeats 1000000 in
theorem held_any {w : World} {m p g b q : Nat} {Fd : Nat → Prop} {S : PS} (H : Pool w m p g b q Fd S) (hm : m ≤ 100000) :
    Calls Tryd.prog 28 #[.pointer (some ⟨p, 0, none⟩)] w fun e w' => ∃ v, e = .returned v ∧ Pl w' (Fresh w) 3 1 v (intsL (sorted (held S.fs))) ∧ New w w' := by
  obtain ⟨D, h1, h2⟩ := H.bits.map
  have c2 : w.cell? ⟨p, 2, none⟩ = some (.map (some b)) := H.bits.row.cell 2
  have hsz := h1.size_le
  have hS := sorted_call h1 (by unfold maxLen; omega) (by omega)
  have HP : Hid (((held S.fs).map fun n : Nat => (n : Int)).Perm (intKeys D)) := held_perm h1 h2 H.bits.keys
  clear H h1 h2
  go_enter Tryd.func28, Tryd.ntmps28
  go_wp2_with fail
  refine (keys_call _ _).mono ?_
  rintro _ _ ⟨rfl, rfl⟩
  go_wp2_with fail
  refine hS.mono ?_
  rintro _ w1 ⟨v, ss, rfl, hss, hr, _, hb⟩
  go_wp2_with fail
  go_ret
  have hl : ss.length = (sorted (held S.fs)).length := by rw [sorted_length, hss.length_eq, ← HP.out.length_eq, List.length_map]
  have hms : ss.mergeSort (fun x y => decide (x ≤ y)) = (sorted (held S.fs)).map fun n : Nat => (n : Int) := by rw [← sort_nat]; exact mergeSort_of_perm_i (hss.trans HP.out.symm)
  rw [hms, hl, List.map_map] at hr
  exact ⟨v, rfl, pl_of_owns hr (by simp), ((New.refl w).alloc _).trans hb⟩
theorem held_nil (w : World) : Calls Tryd.prog 28 #[.pointer none] w fun e w' => e = .returned (.slice none 0 0) ∧ w' = w := by
  go_enter Tryd.func28, Tryd.ntmps28
  go_wp2_with fail
  go_ret
  exact ⟨rfl, rfl⟩
end Go.Proofs.YtkcoclpbkealgaaDoor
