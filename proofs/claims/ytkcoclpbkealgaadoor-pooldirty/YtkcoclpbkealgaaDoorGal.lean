/-
  What a pool holds, what of it is dirty, told rising. The pool's small functions: a text's copy; is a frame empty? the first that is. The hand: which frame is given up. A frame's page goes to the disk; a frame is emptied; one is found. A frame is emptied; one is found. A frame is found for a page.
-/
import Derived.Test.YtkcoclpbkealgaaDoorGai
import Derived.Test.YtkcoclpbkealgaaDoorGak
import Derived.Lib.SlKeysI
namespace Go.Proofs.YtkcoclpbkealgaaDoor
open Go.RowKit Go.Maps Go.Sort Go.Shelf
set_option maxRecDepth 20000

def intsL (l : List Nat) : List (List Value) := l.map fun n : Nat => [Value.int .i64 (n : Int)]
theorem intsL_length (l : List Nat) : (intsL l).length = l.length := by unfold intsL; rw [List.length_map]
theorem flat_ints (l : List Nat) : (intsL l).flatten = l.map fun n : Nat => Value.int .i64 (n : Int) := by
  induction l with
  | nil => rfl
  | cons a l ih => show [Value.int .i64 (a : Int)] ++ (intsL l).flatten = _; rw [ih]; rfl
theorem pl_of_owns {w w' : World} {B : Nat} {v : Value} {l : List Nat} (h : w'.ownsRow B 3 1 v l.length (l.map fun n : Nat => Value.int .i64 (n : Int))) (hB : w.heap.size ≤ B) : Pl w' (Fresh w) 3 1 v (intsL l) := by
  refine ⟨fun e he => ?_, ?_, fun g hg => Nat.le_trans hB (h.lt g hg).1⟩
  · unfold intsL at he; obtain ⟨n, _, rfl⟩ := List.mem_map.1 he; rfl
  · rw [intsL_length, flat_ints]; exact ownsRow_base_a h (Nat.zero_le _)

/-- The pages that have a frame: those that the map has. -/
theorem mem_held {fs : List Fm} {a : Nat} : a ∈ held fs ↔ ∃ i : Nat, (keys fs)[i]? = some (some a) := by
  unfold held
  rw [List.mem_filterMap]
  constructor
  · rintro ⟨o, ho, he⟩
    obtain ⟨i, hi⟩ := List.mem_iff_getElem?.1 ho
    exact ⟨i, by rw [hi]; simpa using he⟩
  · rintro ⟨i, hi⟩; exact ⟨some a, List.mem_of_getElem? hi, rfl⟩
theorem nodup_some : ∀ {ks : List (Option Nat)}, Apart ks → (ks.filterMap id).Nodup
  | [], _ => List.nodup_nil
  | none :: ks, h => by
    show (ks.filterMap id).Nodup
    exact nodup_some fun i j x hi hj => by have := h (i + 1) (j + 1) x hi hj; omega
  | some a :: ks, h => by
    show (a :: ks.filterMap id).Nodup
    refine List.nodup_cons.2 ⟨fun hm => ?_, nodup_some fun i j x hi hj => by have := h (i + 1) (j + 1) x hi hj; omega⟩
    obtain ⟨o, ho, he⟩ := List.mem_filterMap.1 hm
    obtain ⟨i, hi⟩ := List.mem_iff_getElem?.1 ho
    have := h 0 (i + 1) a rfl (by show ks[i]? = _; rw [hi]; simpa using he)
    omega
theorem sort_nat (l : List Nat) : (l.map fun n : Nat => (n : Int)).mergeSort (fun x y => decide (x ≤ y)) = (sorted l).map fun n : Nat => (n : Int) := by
  unfold sorted
  exact (List.map_mergeSort (fun a _ b _ => by simp)).symm
theorem sorted_length (l : List Nat) : (sorted l).length = l.length := by unfold sorted; rw [List.length_mergeSort]
theorem held_perm {w : World} {m b : Nat} {D : DataW Unit} {fs : List Fm} (h1 : w.ownsMap Tryd.prog 3 (plainElem Tryd.prog 3) b m D) (h2 : MapOf D (keys fs)) (hA : Apart (keys fs)) : ((held fs).map fun n : Nat => (n : Int)).Perm (intKeys D) := by
  refine CollectedI.perm (left := fun _ => false) ⟨?_, fun x => ?_⟩ h1 mapLaw Tryd.underlying3 (fun _ => rfl)
  · exact (nodup_some hA).map _ fun a b hab => by intro e; apply hab; exact Int.ofNat_inj.1 e
  · rw [(h2 x).1]
    simp only [List.mem_map, and_true]
    constructor
    · rintro ⟨a, ha, rfl⟩
      obtain ⟨i, hi⟩ := mem_held.1 ha
      rw [idx_eq hA hi rfl]; rfl
    · intro h
      cases h3 : idx x (keys fs) with
      | none => rw [h3] at h; cases h
      | some i => obtain ⟨a, ha, hx⟩ := idx_at h3; exact ⟨a, mem_held.2 ⟨i, ha⟩, hx⟩

theorem Tryd.sortsA (m : Nat) : AnyZI.SortsIn Tryd.prog Tryd.sortedA_ren Fence.wide m :=
  ⟨fun blk off cap ss W hH hblk hsz => callsIn_wide.2 (AnyM.slices_Sort_int Tryd.laysSlM5_f56 blk off cap ss W hH hblk hsz),
   fun p cap W => callsIn_wide.2 (AnyM.slices_Sort_int_none Tryd.laysSlM5_f56 p cap W)⟩
theorem keys_call (mb : Option Nat) (W : World) : Calls Tryd.prog 55 #[.map mb] W fun e w' => e = .returned (.func (.func 74) #[] #[.pointer (some ⟨W.heap.size, 0, none⟩)]) ∧ w' = W.alloc (.cells #[.map mb] 90) :=
  (callsIn_wide (n := 5)).1 (AnyZI.keys_in Tryd.keysA Fence.wide 5 trivial rfl mb W)
set_option maxHeartbeats 1000000 in
theorem sorted_call {b nn : Nat} {D0 : DataW Unit} {w : World} (hown : w.ownsMap Tryd.prog 3 (plainElem Tryd.prog 3) b nn D0) (hmax : Maps.size D0 ≤ maxLen) (hbytes : Maps.size D0 * 8 ≤ 140737488355328) :
    Calls Tryd.prog 54 #[.func (.func 74) #[] #[.pointer (some ⟨w.heap.size, 0, none⟩)]] (w.alloc (.cells #[.map (some b)] 90)) fun e w' => ∃ (v : Value) (ss : List Int), e = .returned v ∧ ss.Perm (intKeys D0) ∧
      w'.ownsRow (w.alloc (.cells #[.map (some b)] 90)).heap.size 3 1 v ss.length ((ss.mergeSort (fun x y => decide (x ≤ y))).map encZ) ∧ (v = .slice none 0 0 ↔ ss = []) ∧ Below (w.alloc (.cells #[.map (some b)] 90)).heap.size (w.alloc (.cells #[.map (some b)] 90)) w' := by
  have hbl := hown.lt
  have hseq : SeqGives Fence.wide 2 Tryd.prog 74 #[.pointer (some ⟨w.heap.size, 0, none⟩)] encZ (fun ss => ss.Perm (intKeys D0)) (Maps.size D0) (w.alloc (.cells #[.map (some b)] 90)) :=
    AnyZI.keys_gives (ρ := Tryd.keysA_ren) { Tryd.keysA with } Fence.wide _ trivial rfl (by omega) w.heap.size b nn D0 _ (by simp) (by simp) (by
      obtain ⟨es, clock, hb, Ft, hs, hD⟩ := hown
      exact ⟨es, clock, (Below.heap_alloc _ _ b hbl).trans hb, Ft, hs, hD⟩)
  exact (callsIn_wide (n := 5)).1 (AnyZI.sorted_in Tryd.sortedA Fence.wide 5 trivial trivial trivial trivial rfl (by omega) (Tryd.sortsA _) (enters_of Tryd.func56 (by kernel_rfl) rfl) 74 #[.pointer (some ⟨w.heap.size, 0, none⟩)] trivial (enters_of Tryd.func74 (by kernel_rfl) rfl) _ _ hmax hbytes _ hseq)

set_option maxHeartbeats 1000000 in
theorem held_any {w : World} {m p g b q : Nat} {Fd : Nat → Prop} {S : PS} (H : Pool w m p g b q Fd S) (hm : m ≤ 100000) :
    Calls Tryd.prog 28 #[.pointer (some ⟨p, 0, none⟩)] w fun e w' => ∃ v, e = .returned v ∧ Pl w' (Fresh w) 3 1 v (intsL (sorted (held S.fs))) ∧ New w w' := by
  obtain ⟨D, h1, h2⟩ := H.bits.map
  have c2 : w.cell? ⟨p, 2, none⟩ = some (.map (some b)) := H.bits.row.cell 2
  have hsz := h1.size_le
  have hS := sorted_call h1 (by unfold maxLen; omega) (by omega)
  have HP : Hid (((held S.fs).map fun n : Nat => (n : Int)).Perm (intKeys D)) := held_perm h1 h2 H.bits.keys
  clear H h1 h2
  go_enter Tryd.func28, Tryd.ntmps28
  go_wp2_with fail
  refine (keys_call _ _).mono ?_
  rintro _ _ ⟨rfl, rfl⟩
  go_wp2_with fail
  refine hS.mono ?_
  rintro _ w1 ⟨v, ss, rfl, hss, hr, _, hb⟩
  go_wp2_with fail
  go_ret
  have hl : ss.length = (sorted (held S.fs)).length := by rw [sorted_length, hss.length_eq, ← HP.out.length_eq, List.length_map]
  have hms : ss.mergeSort (fun x y => decide (x ≤ y)) = (sorted (held S.fs)).map fun n : Nat => (n : Int) := by rw [← sort_nat]; exact mergeSort_of_perm_i (hss.trans HP.out.symm)
  rw [hms, hl, List.map_map] at hr
  exact ⟨v, rfl, pl_of_owns hr (by simp), ((New.refl w).alloc _).trans hb⟩
theorem held_nil (w : World) : Calls Tryd.prog 28 #[.pointer none] w fun e w' => e = .returned (.slice none 0 0) ∧ w' = w := by
  go_enter Tryd.func28, Tryd.ntmps28
  go_wp2_with fail
  go_ret
  exact ⟨rfl, rfl⟩
end Go.Proofs.YtkcoclpbkealgaaDoor
namespace Go.Proofs.YtkcoclpbkealgaaDoor
open Go.RowKit
set_option maxRecDepth 20000

theorem clone_text (s : ByteArray) (h : s.size ≤ 281474976710656) (w : World) : Calls Tryd.prog 42 #[.string s] w fun e w' => e = .returned (.string s) ∧ New w w' := by
  have hc := Tryd.stringslite_Clone s w h
  go_enter Tryd.func42, Tryd.ntmps42
  go_wp2_with fail
  refine hc.mono ?_
  rintro _ w1 ⟨rfl, n1⟩
  go_wp2_with fail
  go_ret
  exact ⟨rfl, n1⟩

theorem fmL_size (f : Fm) : (fmL f).toArray.size = 5 := rfl
theorem fmL_all (f : Fm) : (fmL f).toArray.all (·.oneCell') = true := all_oneCell_toArray (fmL_one f)
theorem bs_empty (l : List UInt8) : (bs l).toList.isEmpty = decide (l = []) := by
  rw [ByteArray.toList_eq]
  cases l with
  | nil => rfl
  | cons a l => rfl
set_option maxHeartbeats 1000000 in
theorem empty_cells (a n : Int) (s : ByteArray) (x y : Bool) (w : World) : Calls Tryd.prog 67 #[.agg #[.int .i64 a, .string s, .int .i64 n, .bool x, .bool y]] w fun e w' => e = .returned (.bool s.toList.isEmpty) ∧ New w w' := by
  go_enter Tryd.func67, Tryd.ntmps67
  go_wp2_with fail
  go_ret
  exact ⟨rfl, (New.refl w).alloc _⟩
theorem empty_any (f : Fm) (w : World) : Calls Tryd.prog 67 #[.agg (fmL f).toArray] w fun e w' => e = .returned (.bool (decide (f.data = []))) ∧ New w w' := by
  rw [← bs_empty]
  exact empty_cells _ _ _ _ _ w

theorem freeAt_found {ks : List (Option Nat)} {i : Nat} (h : ks[i]? = some none) (hb : ∀ j, j < i → ks[j]? ≠ some none) : freeAt ks = some i := by
  unfold freeAt
  obtain ⟨h1, h2⟩ := List.getElem?_eq_some_iff.1 h
  refine List.findIdx?_eq_some_iff_getElem.2 ⟨h1, by rw [h2]; rfl, fun j hj => ?_⟩
  have := hb j hj
  rw [List.getElem?_eq_getElem (by omega)] at this
  cases hk : ks[j]'(by omega) with
  | none => rw [hk] at this; exact absurd rfl this
  | some x => simp
theorem freeAt_not {ks : List (Option Nat)} (hb : ∀ j, j < ks.length → ks[j]? ≠ some none) : freeAt ks = none := by
  unfold freeAt
  refine List.findIdx?_eq_none_iff.2 fun x hx => ?_
  obtain ⟨j, hj⟩ := List.mem_iff_getElem?.1 hx
  have := hb j (List.getElem?_eq_some_iff.1 hj).1
  cases x with
  | none => exact absurd hj this
  | some x => rfl
def freeZ (fs : List Fm) : Int := match freeAt (keys fs) with | some i => (i : Int) | none => -1

set_option maxHeartbeats 2000000 in
/-- The first empty frame. -/
theorem first_any {w : World} {g n : Nat} {fs : List Fm} (P : Pl w (fun x => x = g) 103 5 (.slice (some ⟨g, 0, none⟩) n n) (fs.map fmL)) (hn : fs.length = n) (hl : n ≤ 64) :
    Calls Tryd.prog 66 #[.slice (some ⟨g, 0, none⟩) n n, .func (.func 67) #[] #[]] w fun e w' => e = .returned (.int .i64 (freeZ fs)) ∧ New w w' := by
  have HP : Hid (Pl w (fun x => x = g) 103 5 (.slice (some ⟨g, 0, none⟩) n n) (fs.map fmL)) := P
  have HN : Hid (fs.length = n) := hn
  clear P hn
  go_enter Tryd.func66, Tryd.ntmps66
  go_wp2_with fail
  go_loopw [8] (fun u wr => ∃ i : Nat, u = .int .i64 (i : Int) ∧ i ≤ n ∧ New w wr ∧ Hid (∀ j, j < i → (keys fs)[j]? ≠ some none)) (fun u _ => n - (intOf u).toNat)
  case atStart => exact ⟨0, rfl, by omega, New.refl _, fun j hj => by omega⟩
  case round =>
    obtain ⟨i, rfl, hi, hN, HB⟩ := hrel
    by_cases h : i < n
    · have hif : i < fs.length := by rw [HN.out]; exact h
      obtain ⟨f, hf⟩ : ∃ f, f = fs.getD i noFm := ⟨_, rfl⟩
      have he : (fs.map fmL)[i]? = some (fmL f) := by
        rw [hf, List.getElem?_map, List.getElem?_eq_getElem hif, List.getD_eq_getElem?_getD, List.getElem?_eq_getElem hif]; rfl
      have HK : Hid ((keys fs)[i]? = some f.key) := by rw [hf]; exact keys_at hif
      clear hf hif
      go_wp2_with (first | (refine wpList_load_pl (by rfl) _ _ (by rfl) _ 103 5 g n n i _ _ _ (HP.out.after hN) he (by rfl) Tryd.underlying103 (by rfl) i103 ?_))
      refine (empty_any f _).mono ?_
      rintro _ w1 ⟨rfl, n1⟩
      have hN1 := hN.trans n1
      by_cases hd : f.data = []
      · simp only [hd, decide_true]
        go_wp2_with fail
        go_ret
        have : freeZ fs = (i : Int) := by
          unfold freeZ
          rw [freeAt_found (by rw [HK.out]; unfold Fm.key; rw [if_pos hd]) HB.out]
        exact ⟨ret_int this.symm, hN1⟩
      · simp only [hd, decide_false]
        go_wp2_with fail
        refine ⟨⟨i + 1, by simp, by omega, hN1, fun j hj => ?_⟩, by simp [intOf]; omega⟩
        by_cases e : j = i
        · subst e; rw [HK.out, key_of hd]; simp
        · exact HB.out j (by omega)
    · obtain rfl : i = n := by omega
      go_wp2_with fail
      go_ret
      have : freeZ fs = -1 := by
        unfold freeZ
        rw [freeAt_not (fun j hj => HB.out j (by rw [keys_length, HN.out] at hj; exact hj))]
      exact ⟨ret_int this.symm, hN⟩
end Go.Proofs.YtkcoclpbkealgaaDoor
namespace Go.Proofs.YtkcoclpbkealgaaDoor
open Go.RowKit
set_option maxRecDepth 20000

/-- Frames that are as they were but for their use. -/
structure Calm (fs fs' : List Fm) : Prop where
  len : fs'.length = fs.length
  at_ : ∀ i, (fs'.getD i noFm).at_ = (fs.getD i noFm).at_
  data : ∀ i, (fs'.getD i noFm).data = (fs.getD i noFm).data
  pins : ∀ i, (fs'.getD i noFm).pins = (fs.getD i noFm).pins
  dirty : ∀ i, (fs'.getD i noFm).dirty = (fs.getD i noFm).dirty
theorem Calm.refl (fs : List Fm) : Calm fs fs := ⟨rfl, fun _ => rfl, fun _ => rfl, fun _ => rfl, fun _ => rfl⟩
theorem Calm.trans {a b c : List Fm} (h : Calm a b) (k : Calm b c) : Calm a c :=
  ⟨k.len.trans h.len, fun i => (k.at_ i).trans (h.at_ i), fun i => (k.data i).trans (h.data i), fun i => (k.pins i).trans (h.pins i), fun i => (k.dirty i).trans (h.dirty i)⟩
theorem Calm.set (fs : List Fm) {i : Nat} (hi : i < fs.length) (u : Bool) : Calm fs (fs.set i { fs.getD i noFm with used := u }) := by
  refine ⟨List.length_set .., fun j => ?_, fun j => ?_, fun j => ?_, fun j => ?_⟩
  all_goals
    by_cases e : i = j
    · subst e; rw [getD_set_same hi]
    · rw [getD_set_other e]
theorem getD_ext {fs fs' : List Fm} (hl : fs'.length = fs.length) {β : Type} (f : Fm → β) (h : ∀ i, f (fs'.getD i noFm) = f (fs.getD i noFm)) : fs'.map f = fs.map f := by
  apply List.ext_getElem?
  intro i
  rw [List.getElem?_map, List.getElem?_map]
  have := h i
  rw [List.getD_eq_getElem?_getD, List.getD_eq_getElem?_getD] at this
  by_cases hi : i < fs.length
  · rw [List.getElem?_eq_getElem hi, List.getElem?_eq_getElem (by omega)] at this ⊢
    exact congrArg some this
  · rw [List.getElem?_eq_none (by omega), List.getElem?_eq_none (by omega)]
theorem Calm.keys {fs fs' : List Fm} (h : Calm fs fs') : keys fs' = keys fs := getD_ext h.len _ fun i => by unfold Fm.key; rw [h.at_, h.data]
theorem mem_getD {fs : List Fm} {f : Fm} (h : f ∈ fs) : ∃ i, i < fs.length ∧ f = fs.getD i noFm := by
  obtain ⟨i, hi, rfl⟩ := List.getElem_of_mem h
  exact ⟨i, hi, by rw [List.getD_eq_getElem?_getD, List.getElem?_eq_getElem hi]; rfl⟩
theorem nd_map (fs : List Fm) : nd fs = ((fs.map (·.dirty)).filter id).length := by
  unfold nd
  induction fs with
  | nil => rfl
  | cons f fs ih => simp only [List.map_cons, List.filter_cons, id]; cases f.dirty <;> simp_all
theorem Calm.nd {fs fs' : List Fm} (h : Calm fs fs') : nd fs' = nd fs := by rw [nd_map, nd_map, getD_ext h.len (·.dirty) h.dirty]
theorem Calm.pins_le {fs fs' : List Fm} {m : Nat} (h : Calm fs fs') (hp : ∀ f ∈ fs, f.pins ≤ m) : ∀ f ∈ fs', f.pins ≤ m := fun f hf => by
  obtain ⟨i, hi, rfl⟩ := mem_getD hf
  rw [h.pins]; exact hp _ (getD_mem (by have := h.len; omega))
theorem Calm.inv {S : PS} {fs : List Fm} (h : Calm S.fs fs) (k : Inv S) (hn : freeAt (YtkcoclpbkealgaaDoor.keys S.fs) = none) {hand : Nat} (hh : hand < S.fs.length) : Inv ⟨S.d, fs, hand⟩ := by
  have full : ∀ i, i < S.fs.length → (S.fs.getD i noFm).data ≠ [] := fun i hi e => freeAt_none hn i (by rw [keys_at hi]; unfold Fm.key; rw [if_pos e])
  have hl := h.len
  refine ⟨by simp only [hl]; exact k.few, by simp only [hl]; exact k.most, by simp only [hl]; exact hh, fun f hf => ?_, fun f hf => ?_, fun f hf => ?_, by simp only [h.keys]; exact k.apart⟩
  all_goals obtain ⟨i, hi, rfl⟩ := mem_getD hf
  all_goals simp only [hl] at hi
  · intro e; rw [h.data] at e; exact absurd e (full i hi)
  · intro _; rw [h.data]; exact k.size _ (getD_mem hi) (full i hi)
  · intro _; rw [h.at_]; exact k.in_ _ (getD_mem hi) (full i hi)
theorem chooseN_calm (hand n : Nat) (hn : 0 < n) : ∀ (k s : Nat) (fs : List Fm), fs.length = n → Calm fs (chooseN hand n k s fs).2
  | 0, _, fs, _ => Calm.refl fs
  | k + 1, s, fs, hl => by
    unfold chooseN
    have hi : (hand + s) % n < fs.length := by rw [hl]; exact Nat.mod_lt _ hn
    split
    · exact chooseN_calm hand n hn k (s + 1) fs hl
    · split
      · exact (Calm.set fs hi false).trans (chooseN_calm hand n hn k (s + 1) _ (by rw [List.length_set]; exact hl))
      · exact Calm.refl fs
theorem chooseN_lt (hand n : Nat) (hn : 0 < n) : ∀ (k s : Nat) (fs : List Fm) (i : Nat), (chooseN hand n k s fs).1 = some i → i < n
  | 0, _, _, _, h => by cases h
  | k + 1, s, fs, i, h => by
    unfold chooseN at h
    split at h
    · exact chooseN_lt hand n hn k (s + 1) fs i h
    · split at h
      · exact chooseN_lt hand n hn k (s + 1) _ i h
      · simp only [Option.some.injEq] at h; rw [← h]; exact Nat.mod_lt _ hn

theorem New.drewN (w : World) (n : Nat) : New w (w.drewN n) := ⟨rfl, rfl, rfl, Nat.le_refl _, fun _ _ => rfl⟩
/-- What choose tells. -/
def choseV (r : Option Nat) : Value := match r with | some i => .tuple #[.int .i64 (i : Int), .bool true] | none => .tuple #[.int .i64 0, .bool false]

set_option maxHeartbeats 4000000 in
theorem choose_any {w : World} {m p g b q : Nat} {Fd : Nat → Prop} {d : St} {fs : List Fm} {hand : Nat} {ks : List (Option Nat)} (B : Bits w m p g b q Fd d fs hand ks) (n : Nat) (hn : fs.length = n) (h1 : 1 ≤ n) (h64 : n ≤ 64) (hh : hand < n) (hpins : ∀ f ∈ fs, f.pins ≤ 100000) :
    Calls Tryd.prog 68 #[.pointer (some ⟨p, 0, none⟩)] w fun e w' => e = .returned (choseV (chooseN hand n (2 * n) 0 fs).1) ∧ Bits w' m p g b q Fd d (chooseN hand n (2 * n) 0 fs).2 hand ks ∧ Step (own p g b Fd) (own p g b Fd) w w' := by
  have c1 : w.cell? ⟨p, 1, none⟩ = some (.slice (some ⟨g, 0, none⟩) n n) := by have := B.row.cell 1; rw [hn] at this; exact this
  have HB : Hid (Bits w m p g b q Fd d fs hand ks) := B
  obtain ⟨r, hr⟩ : ∃ r, r = chooseN hand n (2 * n) 0 fs := ⟨_, rfl⟩
  have HR : Hid (chooseN hand n (2 * n) 0 fs = r) := hr.symm
  have HN : Hid (fs.length = n) := hn
  have HP : Hid (∀ f ∈ fs, f.pins ≤ 100000) := hpins
  rw [← hr]
  clear B hr hn hpins
  have hw1 : IntKind.i64.wrap (2 * (n : Int)) = ((2 * n : Nat) : Int) := by rw [IntKind.wrap_i64]; omega
  go_enter Tryd.func68, Tryd.ntmps68
  go_wp2_with fail
  go_loopw [13] (fun u wr => ∃ (k : Nat) (fs' : List Fm), u = .int .i64 (k : Int) ∧ k ≤ 2 * n ∧ Hid (Bits wr m p g b q Fd d fs' hand ks ∧ Step (own p g b Fd) (own p g b Fd) w wr ∧ chooseN hand n (2 * n - k) k fs' = r ∧ fs'.length = n ∧ (∀ f ∈ fs', f.pins ≤ 100000))) (fun u _ => 2 * n - (intOf u).toNat)
  case atStart => exact ⟨0, fs, rfl, by omega, HB.out, Step.refl _ _, HR.out, HN.out, HP.out⟩
  case round =>
    obtain ⟨k, fs', rfl, hk, HI⟩ := hrel
    by_cases h : k < 2 * n
    · obtain ⟨b0, s0, e0, l0, p0⟩ := HI.out
      have c1 : wr.cell? ⟨p, 1, none⟩ = some (.slice (some ⟨g, 0, none⟩) n n) := by have := b0.row.cell 1; rw [l0] at this; exact this
      have c3 : wr.cell? ⟨p, 3, none⟩ = some (.int .i64 (hand : Int)) := b0.row.cell 3
      obtain ⟨i, hi⟩ : ∃ i, i = (hand + k) % n := ⟨_, rfl⟩
      have hin : i < n := by rw [hi]; exact Nat.mod_lt _ (by omega)
      have hrem : Int.tmod ((hand : Int) + (k : Int)) (n : Int) = (i : Int) := by rw [hi]; rw [← Int.natCast_add, ← Int.ofNat_tmod]
      obtain ⟨f, hf⟩ : ∃ f, f = fs'.getD i noFm := ⟨_, rfl⟩
      have hcs := b0.cells (i := i) (by omega)
      rw [← hf] at hcs
      have k2 : wr.cell? ⟨g, i * 5 + 2, none⟩ = some (.int .i64 (f.pins : Int)) := hcs 2 _ rfl
      have k4 : wr.cell? ⟨g, i * 5 + 4, none⟩ = some (.bool f.used) := hcs 4 _ rfl
      have kf := b0.frozen (i * 5 + 4)
      have hpf : f.pins ≤ 100000 := by rw [hf]; exact p0 _ (getD_mem (by omega))
      have HF : Hid (f = fs'.getD i noFm) := hf
      have HJ : Hid (i = (hand + k) % n) := hi
      clear b0 s0 e0 l0 p0 hcs hf hi
      have hstep : 2 * n - k = (2 * n - (k + 1)) + 1 := by omega
      by_cases hp : 0 < f.pins
      · have hp' : (0 : Int) < (f.pins : Int) := by omega
        go_wp2_with fail
        go_quiet (fail)
        go_wp2_with fail
        refine ⟨⟨k + 1, fs', by simp, by omega, ?_⟩, by simp [intOf]; omega⟩
        obtain ⟨b0, s0, e0, l0, p0⟩ := HI.out
        have nq' := New.drewN wr nq
        refine ⟨b0.after nq', s0.trans (Step.new nq'), ?_, l0, p0⟩
        rw [hstep, chooseN, ← HJ.out, ← HF.out, if_pos hp] at e0
        exact e0
      · have hp' : ¬ (0 : Int) < (f.pins : Int) := by omega
        cases hu : f.used
        · rw [hu] at k4
          go_wp2_with fail
          go_quiet (fail)
          go_wp2_with fail
          go_ret2
          obtain ⟨b0, s0, e0, l0, p0⟩ := HI.out
          have nq' := New.drewN wr nq
          rw [hstep, chooseN, ← HJ.out, ← HF.out, if_neg hp, hu, if_neg (by decide)] at e0
          rw [← e0]
          exact ⟨rfl, b0.after nq', s0.trans (Step.new nq')⟩
        · rw [hu] at k4
          go_wp2_with fail
          go_quiet (fail)
          go_wp2_with fail
          refine ⟨⟨k + 1, fs'.set i { f with used := false }, by simp, by omega, ?_⟩, by simp [intOf]; omega⟩
          obtain ⟨b0, s0, e0, l0, p0⟩ := HI.out
          have nq' := New.drewN wr nq
          have hil : i < fs'.length := by omega
          rw [hstep, chooseN, ← HJ.out, ← HF.out, if_neg hp, hu, if_pos rfl] at e0
          refine ⟨(b0.after nq').field hil (by decide) (by rw [← HF.out]; rfl), (s0.trans (Step.new nq')).trans (Step.setCell _ (.inr (.inl rfl)) _), e0, by rw [List.length_set]; exact l0, fun f2 hf2 => ?_⟩
          rcases set_mem hf2 with h2 | rfl
          · exact p0 f2 h2
          · exact hpf
    · obtain rfl : k = 2 * n := by omega
      go_wp2_with fail
      go_ret2
      obtain ⟨b1, s1, e1, _⟩ := HI.out
      rw [Nat.sub_self] at e1
      rw [← e1]
      exact ⟨rfl, b1, s1⟩
end Go.Proofs.YtkcoclpbkealgaaDoor
namespace Go.Proofs.YtkcoclpbkealgaaDoor
open Go.RowKit
set_option maxRecDepth 20000

/-- What a write does to what waits. -/
theorem write_few (S : St) (a : Int) (t : List UInt8) : ((S.write a t).1 = 0 ∧ (S.write a t).2.ws.length = S.ws.length + 1) ∨ ((S.write a t).1 ≠ 0 ∧ (S.write a t).2.ws = S.ws) := by
  unfold St.write St.dead St.burn
  split
  · exact .inr ⟨by simp, rfl⟩
  · split
    · exact .inr ⟨by simp, rfl⟩
    · split
      · exact .inr ⟨by simp, rfl⟩
      · split
        · exact .inr ⟨by simp, rfl⟩
        · exact .inl ⟨rfl, by simp⟩
theorem nd_set : ∀ {fs : List Fm} {i : Nat} {f : Fm}, i < fs.length → nd (fs.set i f) + (if (fs.getD i noFm).dirty then 1 else 0) = nd fs + (if f.dirty then 1 else 0)
  | [], _, _, h => by simp at h
  | x :: fs, 0, f, _ => by
    show nd (f :: fs) + (if x.dirty then 1 else 0) = nd (x :: fs) + _
    unfold nd
    simp only [List.filter_cons]
    cases x.dirty <;> cases f.dirty <;> simp
  | x :: fs, i + 1, f, h => by
    have ih := nd_set (fs := fs) (i := i) (f := f) (by simpa using h)
    show nd (x :: fs.set i f) + (if (fs.getD i noFm).dirty then 1 else 0) = nd (x :: fs) + _
    unfold nd at *
    simp only [List.filter_cons]
    cases x.dirty <;> simp only [Bool.false_eq_true, if_true, if_false, List.length_cons] <;> omega

theorem PS.write_fs (S : PS) (i : Nat) : (S.write i).2.fs = if (S.write i).1 = 0 then S.fs.set i { S.fm i with dirty := false } else S.fs := by
  unfold PS.write; split
  · rfl
  · rfl
theorem PS.write_hand (S : PS) (i : Nat) : (S.write i).2.hand = S.hand := by unfold PS.write; split <;> rfl
theorem PS.write_ps (S : PS) (i : Nat) : (S.write i).2.d.ps = S.d.ps := by unfold PS.write; split <;> exact YtkcoclpbkealgaaDoor.write_ps _ _ _
theorem PS.write_len (S : PS) (i : Nat) : (S.write i).2.fs.length = S.fs.length := by rw [PS.write_fs]; split; rw [List.length_set]; rfl
/-- An empty frame is not dirty. -/
theorem Inv.full {S : PS} (h : Inv S) {i : Nat} (hi : i < S.fs.length) (hd : (S.fm i).dirty = true) : (S.fm i).data ≠ [] := fun e => by
  have := h.none _ (S.fm_mem hi) e
  rw [this] at hd; cases hd
theorem Inv.write {S : PS} (h : Inv S) {i : Nat} (hi : i < S.fs.length) (hd : (S.fm i).dirty = true) : Inv (S.write i).2 := by
  have hf := h.full hi hd
  by_cases e : (S.write i).1 = 0
  · exact h.same hi (f := { S.fm i with dirty := false }) rfl rfl hf (by rw [PS.write_fs, if_pos e]) (PS.write_ps S i) (by rw [PS.write_hand]; exact h.hand)
  · have hfs : (S.write i).2.fs = S.fs := by rw [PS.write_fs, if_neg e]
    exact ⟨by rw [hfs]; exact h.few, by rw [hfs]; exact h.most, by rw [hfs, PS.write_hand]; exact h.hand, by rw [hfs]; exact h.none, by rw [hfs]; exact h.size, by rw [hfs, PS.write_ps]; exact h.in_, by rw [hfs]; exact h.apart⟩
theorem PS.write_room {S : PS} {i : Nat} (hi : i < S.fs.length) (hd : (S.fm i).dirty = true) : (S.write i).2.d.ws.length + nd (S.write i).2.fs = S.d.ws.length + nd S.fs := by
  have hn := nd_set (fs := S.fs) (i := i) (f := { S.fm i with dirty := false }) hi
  rw [show (S.fs.getD i noFm).dirty = true from hd] at hn
  simp only [if_true, Bool.false_eq_true, if_false] at hn
  unfold PS.write
  rcases write_few S.d (S.fm i).at_ (S.fm i).data with ⟨h1, h2⟩ | ⟨h1, h2⟩
  · rw [if_pos h1]; simp only [h2]; omega
  · rw [if_neg h1]; simp only [h2]
theorem PS.write_pins {S : PS} {i m : Nat} (hi : i < S.fs.length) (hp : ∀ f ∈ S.fs, f.pins ≤ m) : ∀ f ∈ (S.write i).2.fs, f.pins ≤ m := by
  intro f hf
  rw [PS.write_fs] at hf
  split at hf
  · rcases set_mem hf with h | rfl
    · exact hp f h
    · exact hp (S.fm i) (S.fm_mem hi)
  · exact hp f hf
theorem keys_same {S : PS} {i : Nat} (hi : i < S.fs.length) {f : Fm} (h1 : f.at_ = (S.fm i).at_) (h2 : f.data = (S.fm i).data) : keys (S.fs.set i f) = keys S.fs := by
  rw [keys_set]
  apply List.ext_getElem?
  intro j
  by_cases e : i = j
  · subst e
    rw [List.getElem?_set_self (by rw [keys_length]; exact hi), keys_at hi]
    unfold Fm.key; rw [h1, h2]; rfl
  · rw [List.getElem?_set_ne e]
theorem PS.write_keys {S : PS} {i : Nat} (hi : i < S.fs.length) : keys (S.write i).2.fs = keys S.fs := by
  rw [PS.write_fs]; split
  · exact keys_same hi rfl rfl
  · rfl

set_option maxHeartbeats 4000000 in
theorem write_any' {w : World} {m p g b q : Nat} {Fd : Nat → Prop} {S : PS} (P : Pool w m p g b q Fd S) (hm : m < 1000) {i : Nat} (hi : i < S.fs.length) (hd : (S.fm i).dirty = true) :
    Calls Tryd.prog 50 #[.pointer (some ⟨p, 0, none⟩), .int .i64 (i : Int)] w fun e w' => e = .returned (.int .i64 (S.write i).1) ∧ PLeft p g b q Fd m w (S.write i).2 w' := by
  have hroom : S.d.ws.length < 1000 := by have := P.room; omega
  have c0 : w.cell? ⟨p, 0, none⟩ = some (.pointer (some ⟨q, 0, none⟩)) := P.bits.row.cell 0
  have c1 : w.cell? ⟨p, 1, none⟩ = some (.slice (some ⟨g, 0, none⟩) S.fs.length S.fs.length) := P.bits.row.cell 1
  have hcs := P.bits.cells hi
  have k0 : w.cell? ⟨g, i * 5, none⟩ = some (.int .i64 ((S.fm i).at_ : Int)) := by have := hcs 0 _ rfl; rw [Nat.add_zero] at this; exact this
  have k1 : w.cell? ⟨g, i * 5 + 1, none⟩ = some (.string (bs (S.fm i).data)) := hcs 1 _ rfl
  have HW : Hid (∀ w1, New w w1 → Calls Tryd.prog 71 #[.pointer (some ⟨q, 0, none⟩), .int .i64 ((S.fm i).at_ : Int), .string (bs (S.fm i).data)] w1 fun e w' => e = .returned (.int .i64 (S.d.write ((S.fm i).at_ : Int) (S.fm i).data).1) ∧ Left Fd q w1 (S.d.write ((S.fm i).at_ : Int) (S.fm i).data).2 w') :=
    fun w1 n1 => by have := write_any (P.bits.disk.after n1) ((S.fm i).at_ : Int) (bs (S.fm i).data) hroom; rwa [L_bs] at this
  have HP : Hid (Pool w m p g b q Fd S) := P
  have H64 := P.inv.most
  have hi' : (i : Int) < (S.fs.length : Int) := by omega
  obtain ⟨r, hr⟩ : ∃ r, r = S.d.write ((S.fm i).at_ : Int) (S.fm i).data := ⟨_, rfl⟩
  rw [← hr] at HW
  have HR : Hid (S.d.write ((S.fm i).at_ : Int) (S.fm i).data = r) := hr.symm
  have HE : Hid (S.write i = if r.1 = 0 then (0, { S with d := r.2, fs := S.fs.set i { S.fm i with dirty := false } }) else (r.1, { S with d := r.2 })) := by rw [hr]; rfl
  have HI : Hid (i < S.fs.length) := hi
  have HD : Hid ((S.fm i).dirty = true) := hd
  obtain ⟨f, hf⟩ : ∃ f, f = S.fm i := ⟨_, rfl⟩
  obtain ⟨n, hn⟩ : ∃ n, n = S.fs.length := ⟨_, rfl⟩
  have HF : Hid (S.fm i = f) := hf.symm
  have HL : Hid (S.fs.length = n) := hn.symm
  rw [← hf] at k0 k1 HW HR HE HD
  rw [← hn] at c1 H64 hi' hi HI
  clear P hcs hr hroom hd hf hn
  have hne := NewW.ne w
  have q0 : ∀ q' : NewW w, q'.v.cell? ⟨p, 0, none⟩ = some (.pointer (some ⟨q, 0, none⟩)) := fun q' => NewW.cell c0 q'
  have q1 : ∀ q' : NewW w, q'.v.cell? ⟨g, i * 5, none⟩ = some (.int .i64 (f.at_ : Int)) := fun q' => NewW.cell k0 q'
  have q2 : ∀ q' : NewW w, q'.v.cell? ⟨g, i * 5 + 1, none⟩ = some (.string (bs f.data)) := fun q' => NewW.cell k1 q'
  go_enter Tryd.func50, Tryd.ntmps50
  go_wp2_with fail
  refine region_first 12 2 w (New.refl w) (by kernel_rfl) (by kernel_rfl) ?_
  simp only [List.take_succ_cons, List.take_zero, List.drop_succ_cons, List.drop_zero, List.take_nil]
  iterate 12 (go_big_quiet_step (fail))
  refine wpQuiet_nil ?_
  rintro W5 ⟨⟨_, N5⟩, rfl⟩
  clear q0 q1 q2 hne
  go_wp2_with fail
  refine (HW.out W5 N5).mono ?_
  rintro _ w6 ⟨rfl, l6⟩
  obtain ⟨Fd', b6, s6⟩ := (HP.out.bits.after N5).call l6
  have hfm : S.fm i = f := HF.out
  have hl : S.fs.length = n := HL.out
  have hil : i < S.fs.length := by omega
  have hdi : (S.fm i).dirty = true := by rw [hfm]; exact HD.out
  have hinv := HP.out.inv.write hil hdi
  have hpins := PS.write_pins hil HP.out.pins
  have hrm := PS.write_room hil hdi
  have hrm2 := HP.out.room
  have hks := PS.write_keys hil
  have hst := (Step.new (F := own p g b Fd) N5).trans s6
  by_cases he : r.1 = 0
  · rw [he]
    have kf := b6.frozen (i * 5 + 3)
    have k3 : w6.cell? ⟨g, i * 5 + 3, none⟩ = some (.bool (S.fs.getD i noFm).dirty) := b6.cells hil 3 _ rfl
    have HG : Hid (PLeft p g b q Fd m w (S.write i).2 (w6.setCell ⟨g, i * 5 + 3, none⟩ (.bool false))) := by
      refine ⟨Fd', ⟨hinv, ?_, hpins, by omega⟩, hst.trans (Step.setCell _ (.inr (.inl rfl)) _)⟩
      rw [hks, HE.out, if_pos he]
      refine b6.field hil (by decide) ?_
      have : S.fs.getD i noFm = f := hfm
      rw [this]; rfl
    have HV : Hid ((S.write i).1 = 0) := by show (S.write i).1 = 0; rw [HE.out, if_pos he]
    generalize (S.fs.getD i noFm).dirty = dd at k3
    clear b6 s6 hfm hl hil hdi hinv hpins hrm hrm2 hks hst l6
    go_wp2_with fail
    go_ret
    exact ⟨ret_int HV.out.symm, HG.out⟩
  · have HG : Hid (PLeft p g b q Fd m w (S.write i).2 w6) := by
      refine ⟨Fd', ⟨hinv, ?_, hpins, by omega⟩, hst⟩
      rw [hks, HE.out, if_neg he]
      exact b6
    have HV : Hid ((S.write i).1 = r.1) := by show (S.write i).1 = r.1; rw [HE.out, if_neg he]
    clear b6 s6 hfm hl hil hdi hinv hpins hrm hrm2 hks hst l6
    generalize r.1 = z at he HV
    go_wp2_with fail
    go_ret
    exact ⟨ret_int HV.out.symm, HG.out⟩

/-- A frame is emptied. -/
theorem PS.vacate_hand (S : PS) (i : Nat) : (S.vacate i).2.hand = S.hand := by unfold PS.vacate; repeat (first | split | exact PS.write_hand S i | rfl)
theorem PS.vacate_ps (S : PS) (i : Nat) : (S.vacate i).2.d.ps = S.d.ps := by unfold PS.vacate; repeat (first | split | exact PS.write_ps S i | rfl)
theorem PS.vacate_len (S : PS) (i : Nat) : (S.vacate i).2.fs.length = S.fs.length := by
  unfold PS.vacate; split
  · split
    · show ((S.write i).2.fs.set i noFm).length = _; rw [List.length_set, PS.write_len]
    · exact PS.write_len S i
  · show (S.fs.set i noFm).length = _; rw [List.length_set]
theorem PS.vacate_fs {S : PS} {i : Nat} (h : (S.vacate i).1 = 0) : (S.vacate i).2.fs = S.fs.set i noFm := by
  unfold PS.vacate at *
  split
  · rename_i hd
    rw [if_pos hd] at h
    split
    · rename_i h0
      show (S.write i).2.fs.set i noFm = _
      rw [PS.write_fs, if_pos h0, List.set_set]
    · rename_i h0
      rw [if_neg h0] at h
      exact absurd h h0
  · rfl
theorem Pool.drop {w w' : World} {m p g b q : Nat} {Fd : Nat → Prop} {S : PS} (P : Pool w m p g b q Fd S) {i : Nat} (hi : i < S.fs.length) (B : Bits w' m p g b q Fd S.d (S.fs.set i noFm) S.hand ((keys S.fs).set i none)) : Pool w' m p g b q Fd (S.setF i noFm) := by
  refine ⟨P.inv.drop hi rfl rfl P.inv.hand, ?_, fun f hf => ?_, ?_⟩
  · show Bits w' m p g b q Fd S.d (S.fs.set i noFm) S.hand (keys (S.fs.set i noFm))
    rw [keys_set]; exact B
  · rcases set_mem hf with h | rfl
    · exact P.pins f h
    · exact Nat.zero_le _
  · have h1 := P.room
    have h2 := nd_set (fs := S.fs) (i := i) (f := noFm) hi
    show S.d.ws.length + nd (S.fs.set i noFm) ≤ m
    have : noFm.dirty = false := rfl
    rw [this] at h2
    simp only [Bool.false_eq_true, if_false] at h2
    omega
end Go.Proofs.YtkcoclpbkealgaaDoor
namespace Go.Proofs.YtkcoclpbkealgaaDoor
open Go.RowKit
set_option maxRecDepth 20000

theorem built103 : Tryd.prog.built 103 [] = some (fmL noFm).toArray := by kernel_rfl
theorem wpList_del {w : World} {ops : Array Oper} {rest : List Oper} {o : Oper} {a : Act} {Q : Exit → Act → World → Prop} {m p g b q : Nat} {Fd : Nat → Prop} {d : St} {fs : List Fm} {hand : Nat} {ks : List (Option Nat)} (B : Bits w m p g b q Fd d fs hand ks) {i x : Nat} (hx : x ≤ 1000) (hk : ks[i]? = some (some x))
    (hgd : o.guard = none) (s t : Operand) (ho : o.op = .call { callee := .builtin .delete, args := #[s, t], argTypes := #[90, 3] }) (hs : a.eval s = .map (some b)) (ht : a.eval t = .int .i64 (x : Int))
    (h : ∀ w', Bits w' m p g b q Fd d fs hand (ks.set i none) → Step (own p g b Fd) (own p g b Fd) w w' → wpList Tryd.prog ops Q rest (a.put o.dst (.tuple #[])) w') : wpList Tryd.prog ops Q (o :: rest) a w := by
  refine wpList_plain hgd fun K' hK' => ?_
  obtain ⟨w', hrun, b1, s1⟩ := B.del hx hk o.type
  unfold Oper.wp
  simp [execOp, ho, resolve, invoke, builtin, hs, ht, hrun, Result.andThen]
  exact hK' _ _ (h w' b1 s1)
theorem Inv.at_le {S : PS} (h : Inv S) (k : Ok S.d) {i : Nat} (hi : i < S.fs.length) (hf : (S.fm i).data ≠ []) : (S.fm i).at_ ≤ 1000 := by
  have h1 := h.in_ _ (S.fm_mem hi) hf
  have h2 := k.len
  have h3 := k.lim
  omega
theorem vac_facts {w1 : World} {m p g b q i : Nat} {F1 : Nat → Prop} {S1 : PS} (P1 : Pool w1 m p g b q F1 S1) (hi1 : i < S1.fs.length) (hf : (S1.fm i).data ≠ []) :
    ∃ n x : Nat, w1.cell? ⟨p, 1, none⟩ = some (.slice (some ⟨g, 0, none⟩) n n) ∧ w1.cell? ⟨p, 2, none⟩ = some (.map (some b)) ∧ w1.cell? ⟨g, i * 5, none⟩ = some (.int .i64 (x : Int)) ∧ (i : Int) < (n : Int) ∧ n ≤ 64 ∧
      S1.fs.length = n ∧ (∀ W5, New w1 W5 → Bits W5 m p g b q F1 S1.d S1.fs S1.hand (keys S1.fs)) ∧ ((keys S1.fs)[i]? = some (some x) ∧ x ≤ 1000) := by
  refine ⟨S1.fs.length, (S1.fm i).at_, P1.bits.row.cell 1, P1.bits.row.cell 2, ?_, by omega, P1.inv.most, rfl, fun W5 n5 => P1.bits.after n5, ?_, P1.inv.at_le P1.bits.disk.ok hi1 hf⟩
  · have := P1.bits.cells hi1 0 _ rfl; rw [Nat.add_zero] at this; exact this
  · rw [keys_at hi1]; exact congrArg some (key_of hf)

set_option maxHeartbeats 4000000 in
theorem vacate_any {w : World} {m p g b q : Nat} {Fd : Nat → Prop} {S : PS} (P : Pool w m p g b q Fd S) (hm : m < 1000) {i : Nat} (hi : i < S.fs.length) (hf : (S.fm i).data ≠ []) :
    Calls Tryd.prog 69 #[.pointer (some ⟨p, 0, none⟩), .int .i64 (i : Int)] w fun e w' => e = .returned (.int .i64 (S.vacate i).1) ∧ PLeft p g b q Fd m w (S.vacate i).2 w' := by
  have k3 : w.cell? ⟨g, i * 5 + 3, none⟩ = some (.bool (S.fm i).dirty) := P.bits.cells hi 3 _ rfl
  cases hd : (S.fm i).dirty
  · rw [hd] at k3
    have HE : Hid (S.vacate i = (0, S.setF i noFm)) := by show S.vacate i = _; unfold PS.vacate; rw [hd]; rfl
    clear hd
    obtain ⟨w1, hw1⟩ : ∃ w1, w1 = w := ⟨_, rfl⟩
    obtain ⟨S1, hS1⟩ : ∃ S1, S1 = S := ⟨_, rfl⟩
    obtain ⟨F1, hF1⟩ : ∃ F1, F1 = Fd := ⟨_, rfl⟩
    have s1 : Step (own p g b Fd) (own p g b F1) w w1 := by rw [hw1, hF1]; exact Step.refl _ _
    have P1 : Pool w1 m p g b q F1 S1 := by rw [hw1, hF1, hS1]; exact P
    have hi1 : i < S1.fs.length := by rw [hS1]; exact hi
    have hfull1 : (S1.fm i).data ≠ [] := by rw [hS1]; exact hf
    rw [← hS1] at HE ⊢
    rw [← hw1] at k3
    clear hf hi P hS1 hF1
    rw [show Calls Tryd.prog 69 #[.pointer (some ⟨p, 0, none⟩), .int .i64 (i : Int)] w = Calls Tryd.prog 69 #[.pointer (some ⟨p, 0, none⟩), .int .i64 (i : Int)] w1 by rw [hw1]]
    clear hw1
    obtain ⟨n, x, c1, c2, k0, hi2, h64, HN', HD', HK'⟩ := vac_facts P1 hi1 hfull1
    have HN : Hid (S1.fs.length = n) := HN'
    have HDel : Hid (∀ W5, New w1 W5 → Bits W5 m p g b q F1 S1.d S1.fs S1.hand (keys S1.fs)) := HD'
    have HK : Hid ((keys S1.fs)[i]? = some (some x) ∧ x ≤ 1000) := HK'
    have HP1 : Hid (Pool w1 m p g b q F1 S1 ∧ i < S1.fs.length ∧ Step (own p g b Fd) (own p g b F1) w w1) := ⟨P1, hi1, s1⟩
    clear P1 hi1 hfull1 HN' HD' HK' s1
    have hne := NewW.ne w1
    have q0 : ∀ q' : NewW w1, q'.v.cell? ⟨p, 2, none⟩ = some (.map (some b)) := fun q' => NewW.cell c2 q'
    have q1 : ∀ q' : NewW w1, q'.v.cell? ⟨p, 1, none⟩ = some (.slice (some ⟨g, 0, none⟩) n n) := fun q' => NewW.cell c1 q'
    have q2 : ∀ q' : NewW w1, q'.v.cell? ⟨g, i * 5, none⟩ = some (.int .i64 (x : Int)) := fun q' => NewW.cell k0 q'
    go_enter Tryd.func69, Tryd.ntmps69
    go_wp2_with fail
    refine region_first 12 1 w1 (New.refl w1) (by kernel_rfl) (by kernel_rfl) ?_
    simp only [List.take_succ_cons, List.take_zero, List.drop_succ_cons, List.drop_zero, List.take_nil]
    iterate 12 (go_big_quiet_step (fail))
    refine wpQuiet_nil ?_
    rintro W5 ⟨⟨_, N5⟩, rfl⟩
    clear q0 q1 q2 hne c1 c2 k0
    refine wpList_del (HDel.out W5 N5) HK.out.2 HK.out.1 (by rfl) _ _ (by rfl) (by rfl) (by rfl) ?_
    intro w6 b6 s6
    have c1 : w6.cell? ⟨p, 1, none⟩ = some (.slice (some ⟨g, 0, none⟩) n n) := by have := b6.row.cell 1; rw [HN.out] at this; exact this
    have HB6 : Hid (Bits w6 m p g b q F1 S1.d S1.fs S1.hand ((keys S1.fs).set i none)) := b6
    have hpl := b6.pl
    rw [HN.out] at hpl
    have HPL : Hid (Pl w6 (fun x => x = g) 103 5 (.slice (some ⟨g, 0, none⟩) n n) (S1.fs.map fmL) ∧ i < (S1.fs.map fmL).length) := ⟨hpl, by rw [List.length_map]; exact HP1.out.2.1⟩
    clear b6 hpl
    go_wp2_with (first | (refine wpList_build0 (by rfl) _ (by rfl) _ built103 ?_) | (refine wpList_store_pl (by rfl) _ _ _ (by rfl) _ 103 5 g n n i _ (fmL noFm) HPL.out.1 HPL.out.2 (by rfl) (by rfl) rfl i103 (fmL_one noFm) ?_; rintro w7 P7 B7))
    go_ret
    obtain ⟨P1, hi1, s1⟩ := HP1.out
    have b7 := HB6.out.frames B7 (fs' := S1.fs.set i noFm) (List.length_set ..) (by rw [List.map_set, HN.out]; exact P7)
    refine ⟨ret_int (by rw [HE.out]), ?_⟩
    rw [HE.out]
    exact ⟨F1, P1.drop hi1 b7, ((s1.trans (Step.new N5)).trans s6).trans (B7.step (.inr (.inl rfl)))⟩
  · rw [hd] at k3
    have hW := write_any' P hm hi hd
    have HV : Hid (S.vacate i = if (S.write i).1 = 0 then (0, (S.write i).2.setF i noFm) else S.write i) := by show S.vacate i = _; unfold PS.vacate; rw [if_pos hd]
    have HFull : Hid (i < (S.write i).2.fs.length ∧ ((S.write i).2.fm i).data ≠ []) := by
      have h1 : i < (S.write i).2.fs.length := by rw [PS.write_len]; exact hi
      have h3 := PS.write_keys hi
      refine ⟨h1, fun h2 => ?_⟩
      have h4 := keys_at h1
      rw [h3, keys_at hi] at h4
      have h5 : (S.fm i).key = ((S.write i).2.fm i).key := by injection h4
      rw [key_of hf] at h5
      unfold Fm.key at h5
      rw [if_pos h2] at h5
      cases h5
    obtain ⟨n, hn⟩ : ∃ n, S.fs.length = n := ⟨_, rfl⟩
    have c1 : w.cell? ⟨p, 1, none⟩ = some (.slice (some ⟨g, 0, none⟩) n n) := by rw [← hn]; exact P.bits.row.cell 1
    have hin : (i : Int) < (n : Int) := by omega
    have hn64 : n ≤ 64 := by rw [← hn]; exact P.inv.most
    obtain ⟨r, hr⟩ : ∃ r, S.write i = r := ⟨_, rfl⟩
    rw [hr] at hW HV HFull
    clear P hi hf hd hn hr
    go_enter Tryd.func69, Tryd.ntmps69
    go_wp2_with fail
    refine hW.mono ?_
    rintro _ w1 ⟨rfl, F1, P1, s1⟩
    by_cases he : r.1 = 0
    · rw [he]
      have HE : Hid (S.vacate i = (0, r.2.setF i noFm)) := by show S.vacate i = _; rw [HV.out, if_pos he]
      obtain ⟨S1, hS1⟩ : ∃ S1, S1 = r.2 := ⟨_, rfl⟩
      rw [← hS1] at P1 HE HFull
      obtain ⟨hi1, hfull1⟩ := HFull.out
      clear c1 k3 hin hn64 HV HFull hW he hS1
      obtain ⟨n, x, c1, c2, k0, hi2, h64, HN', HD', HK'⟩ := vac_facts P1 hi1 hfull1
      have HN : Hid (S1.fs.length = n) := HN'
      have HDel : Hid (∀ W5, New w1 W5 → Bits W5 m p g b q F1 S1.d S1.fs S1.hand (keys S1.fs)) := HD'
      have HK : Hid ((keys S1.fs)[i]? = some (some x) ∧ x ≤ 1000) := HK'
      have HP1 : Hid (Pool w1 m p g b q F1 S1 ∧ i < S1.fs.length ∧ Step (own p g b Fd) (own p g b F1) w w1) := ⟨P1, hi1, s1⟩
      clear P1 hi1 hfull1 HN' HD' HK' s1
      have hne := NewW.ne w1
      have q0 : ∀ q' : NewW w1, q'.v.cell? ⟨p, 2, none⟩ = some (.map (some b)) := fun q' => NewW.cell c2 q'
      have q1 : ∀ q' : NewW w1, q'.v.cell? ⟨p, 1, none⟩ = some (.slice (some ⟨g, 0, none⟩) n n) := fun q' => NewW.cell c1 q'
      have q2 : ∀ q' : NewW w1, q'.v.cell? ⟨g, i * 5, none⟩ = some (.int .i64 (x : Int)) := fun q' => NewW.cell k0 q'
      go_wp2_with fail
      refine region_first 12 1 w1 (New.refl w1) (by kernel_rfl) (by kernel_rfl) ?_
      simp only [List.take_succ_cons, List.take_zero, List.drop_succ_cons, List.drop_zero, List.take_nil]
      iterate 12 (go_big_quiet_step (fail))
      refine wpQuiet_nil ?_
      rintro W5 ⟨⟨_, N5⟩, rfl⟩
      clear q0 q1 q2 hne c1 c2 k0
      refine wpList_del (HDel.out W5 N5) HK.out.2 HK.out.1 (by rfl) _ _ (by rfl) (by rfl) (by rfl) ?_
      intro w6 b6 s6
      have c1 : w6.cell? ⟨p, 1, none⟩ = some (.slice (some ⟨g, 0, none⟩) n n) := by have := b6.row.cell 1; rw [HN.out] at this; exact this
      have HB6 : Hid (Bits w6 m p g b q F1 S1.d S1.fs S1.hand ((keys S1.fs).set i none)) := b6
      have hpl := b6.pl
      rw [HN.out] at hpl
      have HPL : Hid (Pl w6 (fun x => x = g) 103 5 (.slice (some ⟨g, 0, none⟩) n n) (S1.fs.map fmL) ∧ i < (S1.fs.map fmL).length) := ⟨hpl, by rw [List.length_map]; exact HP1.out.2.1⟩
      clear b6 hpl
      go_wp2_with (first | (refine wpList_build0 (by rfl) _ (by rfl) _ built103 ?_) | (refine wpList_store_pl (by rfl) _ _ _ (by rfl) _ 103 5 g n n i _ (fmL noFm) HPL.out.1 HPL.out.2 (by rfl) (by rfl) rfl i103 (fmL_one noFm) ?_; rintro w7 P7 B7))
      go_ret
      obtain ⟨P1, hi1, s1⟩ := HP1.out
      have b7 := HB6.out.frames B7 (fs' := S1.fs.set i noFm) (List.length_set ..) (by rw [List.map_set, HN.out]; exact P7)
      refine ⟨ret_int (by rw [HE.out]), ?_⟩
      rw [HE.out]
      exact ⟨F1, P1.drop hi1 b7, ((s1.trans (Step.new N5)).trans s6).trans (B7.step (.inr (.inl rfl)))⟩
    · have HE : Hid (S.vacate i = r) := by show S.vacate i = _; rw [HV.out, if_neg he]
      have HG : Hid (PLeft p g b q Fd m w r.2 w1) := ⟨F1, P1, s1⟩
      obtain ⟨z, hz⟩ : ∃ z, r.1 = z := ⟨_, rfl⟩
      have HZ : Hid (r.1 = z) := hz
      rw [hz] at he ⊢
      clear P1 s1 hz hW HV HFull
      go_wp2_with fail
      go_ret
      rw [HE.out]
      exact ⟨ret_int HZ.out.symm, HG.out⟩
end Go.Proofs.YtkcoclpbkealgaaDoor
namespace Go.Proofs.YtkcoclpbkealgaaDoor
open Go.RowKit
set_option maxRecDepth 20000

/-- The hand stands where no frame is empty. -/
theorem full_at {S : PS} (hn : freeAt (keys S.fs) = none) {fs : List Fm} (h : Calm S.fs fs) {i : Nat} (hi : i < S.fs.length) : (fs.getD i noFm).data ≠ [] := by
  rw [h.data]
  intro e
  exact freeAt_none hn i (by rw [keys_at hi]; unfold Fm.key; rw [if_pos e])
theorem Pool.chosen {w w1 : World} {m p g b q : Nat} {Fd : Nat → Prop} {S : PS} (P : Pool w m p g b q Fd S) (hn : freeAt (keys S.fs) = none) {fs : List Fm} (h : Calm S.fs fs) (B : Bits w1 m p g b q Fd S.d fs S.hand (keys S.fs)) {i : Nat} (hi : i < S.fs.length) :
    Pool (w1.setCell ⟨p, 3, none⟩ (.int .i64 (i : Int))) m p g b q Fd ⟨S.d, fs, i⟩ := by
  refine ⟨h.inv P.inv hn hi, ?_, h.pins_le P.pins, ?_⟩
  · have := B.setHand i
    rw [← h.keys] at this
    exact this
  · show S.d.ws.length + nd fs ≤ m
    rw [h.nd]; exact P.room
theorem Pool.hand {w : World} {m p g b q : Nat} {Fd : Nat → Prop} {S : PS} (P : Pool w m p g b q Fd S) {k : Nat} (hk : k < S.fs.length) : Pool (w.setCell ⟨p, 3, none⟩ (.int .i64 (k : Int))) m p g b q Fd { S with hand := k } :=
  ⟨⟨P.inv.few, P.inv.most, hk, P.inv.none, P.inv.size, P.inv.in_, P.inv.apart⟩, P.bits.setHand k, P.pins, P.room⟩
theorem PLeft.trans {p g b q m : Nat} {Fd Fd' : Nat → Prop} {w w1 w2 : World} {S : PS} (s : Step (own p g b Fd) (own p g b Fd') w w1) (h : PLeft p g b q Fd' m w1 S w2) : PLeft p g b q Fd m w S w2 := by
  obtain ⟨F2, P2, s2⟩ := h; exact ⟨F2, P2, s.trans s2⟩
theorem PLeft.new {p g b q m : Nat} {Fd : Nat → Prop} {w w1 w2 : World} {S : PS} (n : New w w1) (h : PLeft p g b q Fd m w1 S w2) : PLeft p g b q Fd m w S w2 := PLeft.trans (Step.new n) h

theorem PS.find_free {S : PS} {i : Nat} (h : freeAt (keys S.fs) = some i) : S.find = ⟨0, i, S⟩ := by unfold PS.find; rw [h]
theorem PS.find_none {S : PS} (h : freeAt (keys S.fs) = none) {fs : List Fm} (hc : chooseN S.hand S.fs.length (2 * S.fs.length) 0 S.fs = (none, fs)) : S.find = ⟨5, 0, { S with fs := fs }⟩ := by unfold PS.find; rw [h]; simp only [hc]
theorem PS.find_some {S : PS} (h : freeAt (keys S.fs) = none) {fs : List Fm} {i : Nat} (hc : chooseN S.hand S.fs.length (2 * S.fs.length) 0 S.fs = (some i, fs)) :
    S.find = if (PS.vacate ⟨S.d, fs, i⟩ i).1 = 0 then ⟨0, i, { (PS.vacate ⟨S.d, fs, i⟩ i).2 with hand := (i + 1) % S.fs.length }⟩ else ⟨(PS.vacate ⟨S.d, fs, i⟩ i).1, 0, (PS.vacate ⟨S.d, fs, i⟩ i).2⟩ := by unfold PS.find; rw [h]; simp only [hc]

/-- What a call of find leaves. -/
def FoundV (r : Found) : Value := .tuple #[.int .i64 (r.i : Int), .int .i64 r.e]
set_option maxHeartbeats 4000000 in
theorem find_any {w : World} {m p g b q : Nat} {Fd : Nat → Prop} {S : PS} (P : Pool w m p g b q Fd S) (hm : m < 1000) :
    Calls Tryd.prog 48 #[.pointer (some ⟨p, 0, none⟩)] w fun e w' => e = .returned (FoundV S.find) ∧ PLeft p g b q Fd m w S.find.S w' := by
  obtain ⟨n, hn⟩ : ∃ n, S.fs.length = n := ⟨_, rfl⟩
  have c1 : w.cell? ⟨p, 1, none⟩ = some (.slice (some ⟨g, 0, none⟩) n n) := by rw [← hn]; exact P.bits.row.cell 1
  have h64 : n ≤ 64 := by rw [← hn]; exact P.inv.most
  have h1 : 1 ≤ n := by rw [← hn]; exact P.inv.few
  have hF := first_any (w := w) (g := g) (n := n) (fs := S.fs) (by have := P.bits.pl; rw [hn] at this; exact this) hn h64
  cases hfree : freeAt (keys S.fs) with
  | some i =>
    have hz : freeZ S.fs = (i : Int) := by unfold freeZ; rw [hfree]
    rw [hz] at hF
    have HE : Hid (S.find = ⟨0, i, S⟩) := PS.find_free hfree
    have HP : Hid (Pool w m p g b q Fd S) := P
    have hi0 : (0 : Int) ≤ (i : Int) := Int.natCast_nonneg i
    clear P hfree hz hn
    go_enter Tryd.func48, Tryd.ntmps48
    go_wp2_with fail
    refine hF.mono ?_
    rintro _ w1 ⟨rfl, n1⟩
    clear hF
    go_wp2_with fail
    go_ret2
    rw [HE.out]
    exact ⟨rfl, Fd, HP.out.after n1, Step.new n1⟩
  | none =>
    have hz : freeZ S.fs = -1 := by unfold freeZ; rw [hfree]
    rw [hz] at hF
    have HC : Hid (∀ w1, New w w1 → Calls Tryd.prog 68 #[.pointer (some ⟨p, 0, none⟩)] w1 fun e w' => e = .returned (choseV (chooseN S.hand n (2 * n) 0 S.fs).1) ∧ Bits w' m p g b q Fd S.d (chooseN S.hand n (2 * n) 0 S.fs).2 S.hand (keys S.fs) ∧ Step (own p g b Fd) (own p g b Fd) w1 w') :=
      fun w1 n1 => choose_any (P.bits.after n1) n hn h1 h64 (by rw [← hn]; exact P.inv.hand) (fun f hf => by have := P.pins f hf; omega)
    have hcalm := chooseN_calm S.hand n (by omega) (2 * n) 0 S.fs hn
    have hlt := chooseN_lt S.hand n (by omega) (2 * n) 0 S.fs
    obtain ⟨r, hr⟩ : ∃ r, chooseN S.hand n (2 * n) 0 S.fs = r := ⟨_, rfl⟩
    rw [hr] at HC hcalm hlt
    obtain ⟨o, fs⟩ := r
    cases o with
    | none =>
      have HE : Hid (S.find = ⟨5, 0, { S with fs := fs }⟩) := PS.find_none hfree (by rw [hn]; exact hr)
      have HP : Hid (∀ w1, Bits w1 m p g b q Fd S.d fs S.hand (keys S.fs) → Pool w1 m p g b q Fd { S with fs := fs }) := fun w1 b1 =>
        ⟨hcalm.inv P.inv hfree P.inv.hand, by show Bits w1 m p g b q Fd S.d fs S.hand (keys fs); rw [hcalm.keys]; exact b1, hcalm.pins_le P.pins, by show S.d.ws.length + nd fs ≤ m; rw [hcalm.nd]; exact P.room⟩
      clear P hfree hz hn hr hcalm hlt
      go_enter Tryd.func48, Tryd.ntmps48
      go_wp2_with fail
      refine hF.mono ?_
      rintro _ w1 ⟨rfl, n1⟩
      clear hF
      go_wp2_with fail
      refine (HC.out w1 n1).mono ?_
      rintro _ w2 ⟨rfl, b2, s2⟩
      simp only [choseV]
      go_wp2_with fail
      go_ret2
      rw [HE.out]
      exact ⟨rfl, Fd, HP.out w2 b2, (Step.new n1).trans s2⟩
    | some i =>
      have hi : i < S.fs.length := by rw [hn]; exact hlt i rfl
      have HE : Hid (S.find = if (PS.vacate ⟨S.d, fs, i⟩ i).1 = 0 then ⟨0, i, { (PS.vacate ⟨S.d, fs, i⟩ i).2 with hand := (i + 1) % S.fs.length }⟩ else ⟨(PS.vacate ⟨S.d, fs, i⟩ i).1, 0, (PS.vacate ⟨S.d, fs, i⟩ i).2⟩) := PS.find_some hfree (by rw [hn]; exact hr)
      have HP : Hid (∀ w1, Bits w1 m p g b q Fd S.d fs S.hand (keys S.fs) → Pool (w1.setCell ⟨p, 3, none⟩ (.int .i64 (i : Int))) m p g b q Fd ⟨S.d, fs, i⟩ ∧ w1.cell? ⟨p, 3, none⟩ = some (.int .i64 (S.hand : Int)) ∧ w1.frozen? ⟨p, 3, none⟩ = false) := fun w1 b1 => ⟨P.chosen hfree hcalm b1 hi, b1.row.cell 3, b1.row.frozen 3⟩
      have HFull : Hid (i < fs.length ∧ (fs.getD i noFm).data ≠ []) := ⟨by rw [hcalm.len]; exact hi, full_at hfree hcalm hi⟩
      have HL : Hid ((PS.vacate ⟨S.d, fs, i⟩ i).2.fs.length = n) := by show (PS.vacate ⟨S.d, fs, i⟩ i).2.fs.length = n; rw [PS.vacate_len]; exact hcalm.len.trans hn
      rw [hn] at HE
      obtain ⟨v, hv⟩ : ∃ v, PS.vacate ⟨S.d, fs, i⟩ i = v := ⟨_, rfl⟩
      rw [hv] at HE HL
      have HV : Hid (PS.vacate ⟨S.d, fs, i⟩ i = v) := hv
      obtain ⟨k, hk⟩ : ∃ k, (i + 1) % n = k := ⟨_, rfl⟩
      rw [hk] at HE
      have hrem : Int.tmod ((i : Int) + 1) (n : Int) = (k : Int) := by rw [← hk, show (i : Int) + 1 = ((i + 1 : Nat) : Int) by omega, ← Int.ofNat_tmod]
      have hkn : k < n := by rw [← hk]; exact Nat.mod_lt _ (by omega)
      have hin : i < n := by rw [← hn]; exact hi
      clear P hfree hz hn hr hcalm hlt hi hv hk
      go_enter Tryd.func48, Tryd.ntmps48
      go_wp2_with fail
      refine hF.mono ?_
      rintro _ w1 ⟨rfl, n1⟩
      clear hF
      go_wp2_with fail
      refine (HC.out w1 n1).mono ?_
      rintro _ w2 ⟨rfl, b2, s2⟩
      obtain ⟨P2, d3, f3⟩ := HP.out w2 b2
      have hva := vacate_any P2 hm (i := i) HFull.out.1 HFull.out.2
      rw [HV.out] at hva
      have s3 := ((Step.new (F := own p g b Fd) n1).trans s2).trans (Step.setCell w2 (a := ⟨p, 3, none⟩) (.inl rfl) (.int .i64 (i : Int)))
      simp only [choseV]
      clear b2 s2 P2 HP HC
      go_wp2_with fail
      refine hva.mono ?_
      rintro _ w4 ⟨rfl, F4, P4, s4⟩
      have s5 := s3.trans s4
      clear hva s3 s4
      by_cases he : v.1 = 0
      · have HE' : Hid (S.find = ⟨0, i, { v.2 with hand := k }⟩) := by show S.find = _; rw [HE.out, if_pos he]
        rw [he]
        have c1 : w4.cell? ⟨p, 1, none⟩ = some (.slice (some ⟨g, 0, none⟩) n n) := by have := P4.bits.row.cell 1; rw [HL.out] at this; exact this
        have d3 : w4.cell? ⟨p, 3, none⟩ = some (.int .i64 (v.2.hand : Int)) := P4.bits.row.cell 3
        have f3 : w4.frozen? ⟨p, 3, none⟩ = false := P4.bits.row.frozen 3
        have HG : Hid (PLeft p g b q Fd m w { v.2 with hand := k } (w4.setCell ⟨p, 3, none⟩ (.int .i64 (k : Int)))) := ⟨F4, P4.hand (by rw [HL.out]; exact hkn), s5.trans (Step.setCell w4 (a := ⟨p, 3, none⟩) (.inl rfl) (.int .i64 (k : Int)))⟩
        clear P4 s5 HE
        go_wp2_with fail
        go_ret2
        rw [HE'.out]
        exact ⟨rfl, HG.out⟩
      · have HE' : Hid (S.find = ⟨v.1, 0, v.2⟩) := by show S.find = _; rw [HE.out, if_neg he]
        have HG : Hid (PLeft p g b q Fd m w v.2 w4) := ⟨F4, P4, s5⟩
        obtain ⟨z, hz⟩ : ∃ z, v.1 = z := ⟨_, rfl⟩
        have HZ : Hid (v.1 = z) := hz
        rw [hz] at he ⊢
        clear P4 s5 HE hz
        go_wp2_with fail
        go_ret2
        rw [HE'.out]
        refine ⟨?_, HG.out⟩
        rw [HZ.out]; rfl
end Go.Proofs.YtkcoclpbkealgaaDoor
