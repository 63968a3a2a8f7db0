/-
  The document's own pages of a pool: all, or the dirty ones.
-/
import Derived.Test.YtkcoclpbkealgaaDoorRPut
import Derived.Test.YtkcoclpbkealgaaDoorDirtyA
namespace Go.Proofs.YtkcoclpbkealgaaDoor
open Go.RowKit
set_option maxRecDepth 20000

def selB (d : Bool) (T : PS) (a : Nat) : Bool := match idx (a : Int) (keys T.fs) with | some i => (T.fm i).dirty || !d | none => false
def rpL (d : Bool) (T : PS) (n : Nat) : List Nat := (List.range n).filter (selB d T)
theorem rpL_succ (d : Bool) (T : PS) (k : Nat) : rpL d T (k + 1) = rpL d T k ++ (if selB d T k then [k] else []) := by
  unfold rpL
  rw [List.range_succ, List.filter_append]
  congr 1
  cases h : selB d T k
  · rw [List.filter_cons, h]; rfl
  · rw [List.filter_cons, h]; rfl
theorem rpL_le (d : Bool) (T : PS) (k : Nat) : (rpL d T k).length ≤ k := by
  unfold rpL
  exact Nat.le_trans (List.length_filter_le _ _) (by rw [List.length_range]; exact Nat.le_refl _)
theorem idx_some {T : PS} (hI : Inv T) {a j : Nat} (hj : (keys T.fs)[j]? = some (some a)) : idx (a : Int) (keys T.fs) = some j := idx_eq hI.apart hj rfl
theorem pages_held {T : PS} (hI : Inv T) (h : T.d.ps.length ≤ 200) : sorted (held T.fs) = rpL false T 200 := by
  refine sorted_of ?_ ?_
  · refine (List.perm_ext_iff_of_nodup (nodup_some hI.apart) ((List.nodup_range).filter _)).2 fun a => ?_
    rw [List.mem_filter, List.mem_range]
    constructor
    · intro hm
      obtain ⟨j, hj⟩ := mem_held.1 hm
      have hi := idx_some hI hj
      obtain ⟨hjl, hjf, hja⟩ := idx_full hi
      have := hI.in_ _ (T.fm_mem hjl) hjf
      refine ⟨by omega, ?_⟩
      unfold selB
      rw [hi]
      show ((T.fm j).dirty || !false) = true
      cases (T.fm j).dirty <;> rfl
    · rintro ⟨_, hs⟩
      unfold selB at hs
      cases hi : idx (a : Int) (keys T.fs) with
      | none => rw [hi] at hs; cases hs
      | some j =>
        obtain ⟨hjl, hjf, hja⟩ := idx_full hi
        refine mem_held.2 ⟨j, ?_⟩
        rw [keys_at hjl]
        show some (T.fm j).key = _
        rw [key_of hjf]
        exact congrArg (fun n => some (some n)) (by omega)
  · unfold rpL
    exact List.Pairwise.filter _ ((List.pairwise_lt_range).imp fun h => Nat.le_of_lt h)
theorem pages_dirty {T : PS} (hI : Inv T) (h : T.d.ps.length ≤ 200) : sorted (dirties T.fs) = rpL true T 200 := by
  refine sorted_of ?_ ?_
  · refine (List.perm_ext_iff_of_nodup ((nodup_some hI.apart).sublist (dirties_sub hI.dirty_full)) ((List.nodup_range).filter _)).2 fun a => ?_
    rw [List.mem_filter, List.mem_range]
    constructor
    · intro hm
      unfold dirties at hm
      obtain ⟨f, hf, rfl⟩ := List.mem_map.1 hm
      obtain ⟨hf1, hf2⟩ := List.mem_filter.1 hf
      obtain ⟨i, hi, rfl⟩ := mem_getD hf1
      have hne := hI.dirty_full _ hf1 hf2
      have hx : idx (((T.fs.getD i noFm).at_ : Nat) : Int) (keys T.fs) = some i := idx_eq hI.apart (by rw [keys_at hi, key_of hne]) rfl
      have := hI.in_ _ hf1 hne
      refine ⟨by omega, ?_⟩
      unfold selB
      rw [hx]
      show ((T.fs.getD i noFm).dirty || !true) = true
      rw [hf2]; rfl
    · rintro ⟨_, hs⟩
      unfold selB at hs
      cases hi : idx (a : Int) (keys T.fs) with
      | none => rw [hi] at hs; cases hs
      | some j =>
        rw [hi] at hs
        obtain ⟨hjl, hjf, hja⟩ := idx_full hi
        unfold dirties
        exact List.mem_map.2 ⟨T.fm j, List.mem_filter.2 ⟨T.fm_mem hjl, by simpa using hs⟩, by omega⟩
  · unfold rpL
    exact List.Pairwise.filter _ ((List.pairwise_lt_range).imp fun h => Nat.le_of_lt h)

set_option maxHeartbeats 8000000 in
theorem rpages_any {w : World} {m p g c q : Nat} {G : Nat → Prop} {T : PS} (P : RP w m p g c q G T) (d : Bool) :
    Calls Tryd.prog 29 #[.pointer (some ⟨p, 0, none⟩), .bool d] w fun e w' => ∃ v, e = .returned v ∧ Pl w' (Fresh w) 3 1 v (intsL (rpL d T 200)) ∧ New w w' := by
  have HP : Hid (RP w m p g c q G T) := P
  clear P
  go_enter Tryd.func29, Tryd.ntmps29
  go_wp2_with fail
  go_loopw [5, 6] (fun v u wr => ∃ i : Nat, u = .int .i64 (i : Int) ∧ i ≤ 200 ∧ Hid (Pl wr (Fresh w) 3 1 v (intsL (rpL d T i)) ∧ New w wr)) (fun _ u _ => 200 - (intOf u).toNat)
  case atStart => exact ⟨0, rfl, by omega, Pl.nil _ _ _ _, New.refl _⟩
  case round =>
    obtain ⟨i, rfl, hi, HI⟩ := hrel
    by_cases h : i < 200
    · have h' : (i : Int) < 200 := by omega
      have P1 := HP.out.after HI.out.2
      have hh := rhas_any P1 (i : Int)
      have HX : Hid (rpL d T (i + 1) = rpL d T i ++ (if selB d T i then [i] else [])) := rpL_succ d T i
      have HL : Hid ((intsL (rpL d T i)).length ≤ 1000000) := by show (intsL (rpL d T i)).length ≤ 1000000; rw [intsL_length]; have := rpL_le d T i; omega
      cases hx : idx (i : Int) (keys T.fs) with
      | none =>
        have hz : idxZ (i : Int) (keys T.fs) = -1 := by unfold idxZ; rw [hx]
        have HS : Hid (selB d T i = false) := by show selB d T i = false; unfold selB; rw [hx]
        rw [hz] at hh
        clear hz hx P1
        go_wp2_with fail
        refine hh.mono ?_
        rintro _ w2 ⟨rfl, rfl⟩
        clear hh
        go_wp2_with fail
        refine ⟨⟨i + 1, by simp, by omega, ?_⟩, by simp [intOf]; omega⟩
        rw [HX.out, HS.out, if_neg (by decide), List.append_nil]
        exact HI.out
      | some j =>
        have hz : idxZ (i : Int) (keys T.fs) = (j : Int) := by unfold idxZ; rw [hx]
        obtain ⟨hjl, _, _⟩ := idx_full hx
        have HS : Hid (selB d T i = ((T.fm j).dirty || !d)) := by show selB d T i = _; unfold selB; rw [hx]
        have k3 : wr.cell? ⟨g, j * 5 + 3, none⟩ = some (.bool (T.fm j).dirty) := P1.cells hjl 3 _ rfl
        have c1 : wr.cell? ⟨p, 1, none⟩ = some (.slice (some ⟨g, 0, none⟩) T.fs.length c) := P1.row.cell 1
        have h64 := P1.inv.most
        rw [hz] at hh
        generalize T.fs.length = n at hjl c1 h64
        have h0 : (0 : Int) ≤ (j : Int) := by omega
        have hj' : (j : Int) < (n : Int) := by omega
        generalize (T.fm j).dirty = b at HS k3
        clear hz hx P1
        go_wp2_with fail
        refine hh.mono ?_
        rintro _ w2 ⟨rfl, rfl⟩
        clear hh
        cases b <;> cases d
        · go_wp2_with (first
            | (refine wpList_append_pl (HI.out.1.after ((New.refl w2).alloc _)) (by rfl) _ _ 56 (by rfl) Tryd.underlying56 _ _ info3 rfl (by decide) w2.heap.size [.int .i64 (i : Int)] 3 (Row.new w2 _ 3) rfl (fun u hu => by obtain rfl : u = .int .i64 (i : Int) := (by simpa using hu); rfl) HL.out (by decide) (by rfl) (by rfl) ?_; intro g3 cap3 W4 Q4 G4))
          have hsz := HI.out.2.size
          refine ⟨⟨i + 1, by simp, by omega, ?_⟩, by simp [intOf]; omega⟩
          rw [HX.out, HS.out, if_pos (by decide)]
          refine ⟨?_, ?_⟩
          · unfold intsL at Q4 ⊢
            rw [List.map_append]
            refine Q4.mono fun b hb _ => ?_
            rcases hb with hb | hb
            · exact hb
            · rw [World.size_alloc] at hb
              show w.heap.size ≤ b
              omega
          · exact (HI.out.2.trans ((New.refl w2).alloc _)).grown G4 fun k hk => HI.out.1.foot k hk
        · go_wp2_with fail
          refine ⟨⟨i + 1, by simp, by omega, ?_⟩, by simp [intOf]; omega⟩
          rw [HX.out, HS.out, if_neg (by decide), List.append_nil]
          exact HI.out
        · go_wp2_with (first
            | (refine wpList_append_pl (HI.out.1.after ((New.refl w2).alloc _)) (by rfl) _ _ 56 (by rfl) Tryd.underlying56 _ _ info3 rfl (by decide) w2.heap.size [.int .i64 (i : Int)] 3 (Row.new w2 _ 3) rfl (fun u hu => by obtain rfl : u = .int .i64 (i : Int) := (by simpa using hu); rfl) HL.out (by decide) (by rfl) (by rfl) ?_; intro g3 cap3 W4 Q4 G4))
          have hsz := HI.out.2.size
          refine ⟨⟨i + 1, by simp, by omega, ?_⟩, by simp [intOf]; omega⟩
          rw [HX.out, HS.out, if_pos (by decide)]
          refine ⟨?_, ?_⟩
          · unfold intsL at Q4 ⊢
            rw [List.map_append]
            refine Q4.mono fun b hb _ => ?_
            rcases hb with hb | hb
            · exact hb
            · rw [World.size_alloc] at hb
              show w.heap.size ≤ b
              omega
          · exact (HI.out.2.trans ((New.refl w2).alloc _)).grown G4 fun k hk => HI.out.1.foot k hk
        · go_wp2_with (first
            | (refine wpList_append_pl (HI.out.1.after ((New.refl w2).alloc _)) (by rfl) _ _ 56 (by rfl) Tryd.underlying56 _ _ info3 rfl (by decide) w2.heap.size [.int .i64 (i : Int)] 3 (Row.new w2 _ 3) rfl (fun u hu => by obtain rfl : u = .int .i64 (i : Int) := (by simpa using hu); rfl) HL.out (by decide) (by rfl) (by rfl) ?_; intro g3 cap3 W4 Q4 G4))
          have hsz := HI.out.2.size
          refine ⟨⟨i + 1, by simp, by omega, ?_⟩, by simp [intOf]; omega⟩
          rw [HX.out, HS.out, if_pos (by decide)]
          refine ⟨?_, ?_⟩
          · unfold intsL at Q4 ⊢
            rw [List.map_append]
            refine Q4.mono fun b hb _ => ?_
            rcases hb with hb | hb
            · exact hb
            · rw [World.size_alloc] at hb
              show w.heap.size ≤ b
              omega
          · exact (HI.out.2.trans ((New.refl w2).alloc _)).grown G4 fun k hk => HI.out.1.foot k hk
    · obtain rfl : i = 200 := by omega
      go_wp2_with fail
      go_ret
      exact ⟨_, rfl, HI.out.1, HI.out.2⟩
end Go.Proofs.YtkcoclpbkealgaaDoor
